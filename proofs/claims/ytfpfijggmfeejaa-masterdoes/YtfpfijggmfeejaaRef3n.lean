/-
  What is proved here: what the document's own AnswerParse returns, of a request that may be and of any bytes up to 600.
-/
import Derived.Test.YtfpfijggmfeejaaPdu17
import Derived.Test.YtfpfijggmfeejaaRef3g
import Derived.Test.YtfpfijggmfeejaaRef3h
namespace Go.Proofs.Ytfpfijggmfeejaa
set_option linter.unusedVariables false
set_option linter.unusedSimpArgs false
open Go.RowKit

/-- An answer and a bool are handed back. -/
def RetAnB (x : An) (ok : Bool) (w : World) (e : Ending) (w' : World) : Prop := ∃ C m k, e = .returned (.tuple #[.agg #[.slice C m k, .int .i64 x.code], .bool ok]) ∧ m ≤ k ∧ Rd w' C m (iv x.us) ∧ Below w.heap.size w w'

theorem three_boxes (w : World) (l1 l2 l3 : List Value) (t1 t2 t3 : TypeId) (W : World) (hW : W = ((w.alloc (.cells (arr l1) t1)).alloc (.cells (arr l2) t2)).alloc (.cells (arr l3) t3)) :
    Blk W w.heap.size t1 l1 ∧ Blk W (w.heap.size + 1) t2 l2 ∧ Blk W (w.heap.size + 2) t3 l3 ∧ Below w.heap.size w W ∧ W.heap.size = w.heap.size + 3 := by
  subst hW
  have h1 := Blk.new w t1 l1
  have h2 := Blk.new (w.alloc (.cells (arr l1) t1)) t2 l2
  have h3 := Blk.new ((w.alloc (.cells (arr l1) t1)).alloc (.cells (arr l2) t2)) t3 l3
  simp only [World.size_alloc] at h2 h3
  exact ⟨(h1.al _).al _, h2.al _, h3, ((((Below.refl _ _).alloc (Nat.le_refl _) _).alloc (by simp) _).alloc (by simp; omega) _), by simp⟩


theorem ansParse_other (f a c : Int) (vs : List Int) (t an o : Int) (xs : List UInt8) (hm : mayB f a c vs t an o = true) (hx : ((xs[0]?.getD 0).toNat : Int) = f + 128) (hl : xs.length ≠ 2) : ansParseL ⟨f, a, c, vs, t, an, o⟩ xs = none := by
  unfold ansParseL
  rw [if_neg]
  rintro ⟨h1, h2⟩
  have hc : (ag ⟨f, a, c, vs, t, an, o⟩ xs).code = 0 := by
    unfold ag
    rw [if_neg (fun hh => hl hh.1)]
    split
    · rfl
    split
    · rfl
    · rfl
  have := ans_head (us := (ag ⟨f, a, c, vs, t, an, o⟩ xs).us) (code := (ag ⟨f, a, c, vs, t, an, o⟩ xs).code) hm h1
  rw [show ansL f a c vs t an o (ag ⟨f, a, c, vs, t, an, o⟩ xs).code (ag ⟨f, a, c, vs, t, an, o⟩ xs).us = xs from h2, hc, if_pos rfl, hx] at this
  omega
/-- Where the first byte is the function's and 128 more, and the second is 0. -/
theorem ansParse_zero (f a c : Int) (vs : List Int) (t an o : Int) (xs : List UInt8) (hm : mayB f a c vs t an o = true) (hx : ((xs[0]?.getD 0).toNat : Int) = f + 128) (h1 : ((xs[1]?.getD 0).toNat : Int) = 0) : ansParseL ⟨f, a, c, vs, t, an, o⟩ xs = none := by
  by_cases hl : xs.length = 2
  · unfold ansParseL
    rw [if_neg]
    have hag : ag ⟨f, a, c, vs, t, an, o⟩ xs = ⟨[], 0⟩ := by
      unfold ag
      rw [if_pos ⟨hl, hx⟩, h1]
    rw [hag]
    rintro ⟨h3, h4⟩
    have := ans_head (us := []) (code := 0) hm h3
    rw [show ansL f a c vs t an o 0 [] = xs from h4, if_pos rfl, hx] at this
    omega
  · exact ansParse_other f a c vs t an o xs hm hx hl

set_option maxHeartbeats 1000000 in
theorem refAnsP_zero (f a c t an o : Int) (A : Option Addr) (b o' n k l d : Nat) (vs : List Int) (xs : List UInt8) (w : World) (hl0 : 2 ≤ l) (hbl : b < w.heap.size) (x0 : w.cell? ⟨b, o', none⟩ = some (.int .u8 (f + 128))) (x1 : w.cell? ⟨b, o' + 1, none⟩ = some (.int .u8 0)) (hf : 1 ≤ f) (hf' : f ≤ 23) (hp : ansParseL ⟨f, a, c, vs, t, an, o⟩ xs = none) :
    Calls Try.prog 37 #[.agg #[.int .i64 f, .int .i64 a, .int .i64 c, .slice A n k, .int .i64 t, .int .i64 an, .int .i64 o], .slice (some ⟨b, o', none⟩) l d] w (RetAnB ((ansParseL ⟨f, a, c, vs, t, an, o⟩ xs).getD An.none) (ansParseL ⟨f, a, c, vs, t, an, o⟩ xs).isSome w) := by
  have q0 : (0 : Int) < (l : Int) := by omega
  have q0n : 0 < l := by omega
  have q1 : (1 : Int) < (l : Int) := by omega
  have q2 : decide ((l : Int) < 2) = false := by simp; omega
  have q : (f + 128 == f + 128) = true := by simp
  have X0 := hide x0
  have X1 := hide x1
  have HPz := hide hp
  clear x0 x1 hp
  go_enter Try.func37, Try.ntmps37
  go_wp2_with fail
  generalize hW : ((w.alloc (.cells #[.int .i64 f, .int .i64 a, .int .i64 c, .slice A n k, .int .i64 t, .int .i64 an, .int .i64 o] 37)).alloc (.cells #[.slice none 0 0, .int .i64 0] 61)).alloc (.cells #[.slice none 0 0, .int .i64 0] 61) = W
  obtain ⟨hB1, hB2, hB3, hBel, hsz⟩ := three_boxes w [.int .i64 f, .int .i64 a, .int .i64 c, .slice A n k, .int .i64 t, .int .i64 an, .int .i64 o] [.slice none 0 0, .int .i64 0] [.slice none 0 0, .int .i64 0] 37 61 61 W hW.symm
  clear hW
  have hw1 : w.heap.size < W.heap.size := by omega
  have hw2 : w.heap.size + 1 < W.heap.size := by omega
  have hw3 : w.heap.size + 2 < W.heap.size := by omega
  have x0 := (hBel.cell (p := ⟨b, o', none⟩) hbl).trans X0.out
  obtain ⟨k0, k1, k2, k3, k4, k5, k6⟩ := hB1.seven
  obtain ⟨j0, j1⟩ := hB2.two
  obtain ⟨i0, i1⟩ := hB3.two
  have jf := hB2.frozen
  have if_ := hB3.frozen
  have K := hide hB1
  have J := hide hB2
  have G := hide hB3
  have BL := hide hBel
  clear hB1 hB2 hB3 hBel hsz
  go_quiet (fail)
  have K' : Hid (Blk (W.drewN nq) w.heap.size 37 _) := K.out
  have J' : Hid (Blk (W.drewN nq) (w.heap.size + 1) 61 _) := J.out
  have G' : Hid (Blk (W.drewN nq) (w.heap.size + 2) 61 _) := G.out
  have BL' : Hid (Below w.heap.size w (W.drewN nq)) := below_drewN BL.out nq
  generalize W.drewN nq = V at *
  clear k0 k1 k2 k3 k4 k5 k6 j0 j1 i0 i1 jf if_ K J G BL x0 hw1 hw2 hw3
  clear W
  have K := K'
  have J := J'
  have G := G'
  have BL := BL'
  clear K' J' G' BL'
  have hw1 : w.heap.size < V.heap.size := K.out.lt
  have hw2 : w.heap.size + 1 < V.heap.size := J.out.lt
  have hw3 : w.heap.size + 2 < V.heap.size := G.out.lt
  obtain ⟨k0, k1, k2, k3, k4, k5, k6⟩ := K.out.seven
  obtain ⟨j0, j1⟩ := J.out.two
  obtain ⟨i0, i1⟩ := G.out.two
  have jf := J.out.frozen
  have if_ := G.out.frozen
  have x1 := (BL.out.cell (p := ⟨b, o' + 1, none⟩) hbl).trans X1.out
  go_wp2_with fail
  (try simp only [Exit.inBlock, Exit.then])
  refine bodyPost_ret (results_cell_tmp rfl rfl ((J.out.oth (by omega) 1 _).set2 _ _) Try.underlying61 rfl (by kernel_rfl)) rfl ?_
  rw [HPz.out]
  exact ⟨none, 0, 0, rfl, Nat.le_refl _, Rd.nil _ _, below_set2 (BL.out.setCell (Nat.le_add_right _ 2) _) (Nat.le_succ _) _ _⟩

set_option maxRecDepth 100000 in
set_option maxHeartbeats 1000000 in
theorem refAnsP_1 (a c t an o x : Int) (A : Option Addr) (b o' n k l d : Nat) (vs : List Int) (xs : List UInt8) (w : World) (h1 : Rd w A n (iv vs)) (h2 : Rd w (some ⟨b, o', none⟩) l (bv xs)) (hd : l ≤ d) (hl0 : 2 ≤ l) (hl6 : l ≤ 600) (x0 : w.cell? ⟨b, o', none⟩ = some (.int .u8 x)) (hx0 : 0 ≤ x) (hx1 : x ≤ 255) (hM : mayB 1 a c vs t an o = true) (hno : ¬ x = 1 + 128) (hag : ag ⟨1, a, c, vs, t, an, o⟩ xs = ⟨bitsL (xs.drop 2) c.toNat, 0⟩) :
    Calls Try.prog 37 #[.agg #[.int .i64 1, .int .i64 a, .int .i64 c, .slice A n k, .int .i64 t, .int .i64 an, .int .i64 o], .slice (some ⟨b, o', none⟩) l d] w (RetAnB ((ansParseL ⟨1, a, c, vs, t, an, o⟩ xs).getD An.none) (ansParseL ⟨1, a, c, vs, t, an, o⟩ xs).isSome w) := by
  have hbl : b < w.heap.size := block_lt_of_cell x0
  have q0 : (0 : Int) < (l : Int) := by omega
  have q0n : 0 < l := by omega
  have q2 : decide ((l : Int) < 2) = false := by simp; omega
  have X0 := hide x0
  have H1 := hide h1
  have H2 := hide h2
  have HM := hide hM
  have hct := may_count hM
  have hxl : xs.length = l := by rw [← bv_length]; exact h2.1
  have q : (x == 1 + 128) = false := ne_beq hno
  by_cases hs : 8 * (l - 2) < c.toNat
  · have hbn : bitsL (xs.drop 2) c.toNat = [] := by rw [bitsL, if_neg (by rw [List.length_drop]; omega)]
    have HPz := hide (show ansParseL ⟨1, a, c, vs, t, an, o⟩ xs = none from by
      rw [ansParse_eq _ xs _ _ hag, hbn, if_neg]
      rintro ⟨h3, _⟩
      have h4 : ansMayB 1 c 0 [] = true := h3
      have : (([] : List Int).length : Int) = c := by simpa [ansMayB, upToB] using h4
      simp at this
      omega)
    have q8 : decide (8 * ((l : Int) - 2) < c) = true := by simp; omega
    clear x0 h1 h2 hM hag hno hbn hs hct hxl
    go_enter Try.func37, Try.ntmps37
    go_wp2_with fail
    generalize hW : ((w.alloc (.cells #[.int .i64 1, .int .i64 a, .int .i64 c, .slice A n k, .int .i64 t, .int .i64 an, .int .i64 o] 37)).alloc (.cells #[.slice none 0 0, .int .i64 0] 61)).alloc (.cells #[.slice none 0 0, .int .i64 0] 61) = W
    obtain ⟨hB1, hB2, hB3, hBel, hsz⟩ := three_boxes w [.int .i64 1, .int .i64 a, .int .i64 c, .slice A n k, .int .i64 t, .int .i64 an, .int .i64 o] [.slice none 0 0, .int .i64 0] [.slice none 0 0, .int .i64 0] 37 61 61 W hW.symm
    clear hW
    have hw1 : w.heap.size < W.heap.size := by omega
    have hw2 : w.heap.size + 1 < W.heap.size := by omega
    have hw3 : w.heap.size + 2 < W.heap.size := by omega
    have x0 := (hBel.cell (p := ⟨b, o', none⟩) hbl).trans X0.out
    obtain ⟨k0, k1, k2, k3, k4, k5, k6⟩ := hB1.seven
    obtain ⟨j0, j1⟩ := hB2.two
    obtain ⟨i0, i1⟩ := hB3.two
    have jf := hB2.frozen
    have if_ := hB3.frozen
    have K := hide hB1
    have J := hide hB2
    have G := hide hB3
    have BL := hide hBel
    clear hB1 hB2 hB3 hBel hsz
    go_quiet (fail)
    have K' : Hid (Blk (W.drewN nq) w.heap.size 37 _) := K.out
    have J' : Hid (Blk (W.drewN nq) (w.heap.size + 1) 61 _) := J.out
    have G' : Hid (Blk (W.drewN nq) (w.heap.size + 2) 61 _) := G.out
    have BL' : Hid (Below w.heap.size w (W.drewN nq)) := below_drewN BL.out nq
    generalize W.drewN nq = V at *
    clear k0 k1 k2 k3 k4 k5 k6 j0 j1 i0 i1 jf if_ K J G BL x0 hw1 hw2 hw3
    clear W
    have K := K'
    have J := J'
    have G := G'
    have BL := BL'
    clear K' J' G' BL'
    have hw1 : w.heap.size < V.heap.size := K.out.lt
    have hw2 : w.heap.size + 1 < V.heap.size := J.out.lt
    have hw3 : w.heap.size + 2 < V.heap.size := G.out.lt
    obtain ⟨k0, k1, k2, k3, k4, k5, k6⟩ := K.out.seven
    obtain ⟨j0, j1⟩ := J.out.two
    obtain ⟨i0, i1⟩ := G.out.two
    have jf := J.out.frozen
    have if_ := G.out.frozen
    go_wp2_with fail
    (try simp only [Exit.inBlock, Exit.then])
    refine bodyPost_ret (results_cell_tmp rfl rfl (J.out.set2 _ _) Try.underlying61 rfl (by kernel_rfl)) rfl ?_
    rw [HPz.out]
    exact ⟨none, 0, 0, rfl, Nat.le_refl _, Rd.nil _ _, below_set2 BL.out (Nat.le_succ _) _ _⟩
  · have q8 : decide (8 * ((l : Int) - 2) < c) = false := by simp; omega
    have hbe : bitsL (xs.drop 2) c.toNat = unpackL (xs.drop 2) c.toNat := by rw [bitsL, if_pos (by rw [List.length_drop]; omega)]
    rw [hbe] at hag
    have HZ := hide (ansParse_eq ⟨1, a, c, vs, t, an, o⟩ xs _ _ hag)
    have hsl2 := fun W => run_slTail (P := Try.prog) 38 5 Try.underlying38 u8_size (some ⟨b, o', none⟩) l d 2 2 rfl (by omega) W
    have HU := hide (fun W (hr : Rd W (some ⟨b, o', none⟩) l (bv xs)) => (refUnpack_own (cutA (some ⟨b, o', none⟩) 2 d) (l - 2) (d - 2) c.toNat (xs.drop 2) W (by have := hr.tail 2 d (by omega) hd; rwa [bv_drop] at this) (by omega) (by omega)).mono fun _ _ h => h.new)
    rw [show ((c.toNat : Nat) : Int) = c from by omega] at HU
    generalize unpackL (xs.drop 2) c.toNat = us at *
    generalize hmm0 : c.toNat = mm at *
    have hmm : mm ≤ 1000000 := by omega
    clear x0 h1 h2 hM hag hno hbe hs hxl hmm0 hct
    go_enter Try.func37, Try.ntmps37
    go_wp2_with fail
    generalize hW : ((w.alloc (.cells #[.int .i64 1, .int .i64 a, .int .i64 c, .slice A n k, .int .i64 t, .int .i64 an, .int .i64 o] 37)).alloc (.cells #[.slice none 0 0, .int .i64 0] 61)).alloc (.cells #[.slice none 0 0, .int .i64 0] 61) = W
    obtain ⟨hB1, hB2, hB3, hBel, hsz⟩ := three_boxes w [.int .i64 1, .int .i64 a, .int .i64 c, .slice A n k, .int .i64 t, .int .i64 an, .int .i64 o] [.slice none 0 0, .int .i64 0] [.slice none 0 0, .int .i64 0] 37 61 61 W hW.symm
    clear hW
    have hw1 : w.heap.size < W.heap.size := by omega
    have hw2 : w.heap.size + 1 < W.heap.size := by omega
    have hw3 : w.heap.size + 2 < W.heap.size := by omega
    have x0 := (hBel.cell (p := ⟨b, o', none⟩) hbl).trans X0.out
    obtain ⟨k0, k1, k2, k3, k4, k5, k6⟩ := hB1.seven
    obtain ⟨j0, j1⟩ := hB2.two
    obtain ⟨i0, i1⟩ := hB3.two
    have jf := hB2.frozen
    have if_ := hB3.frozen
    have K := hide hB1
    have J := hide hB2
    have G := hide hB3
    have BL := hide hBel
    clear hB1 hB2 hB3 hBel hsz
    go_quiet (fail)
    have K' : Hid (Blk (W.drewN nq) w.heap.size 37 _) := K.out
    have J' : Hid (Blk (W.drewN nq) (w.heap.size + 1) 61 _) := J.out
    have G' : Hid (Blk (W.drewN nq) (w.heap.size + 2) 61 _) := G.out
    have BL' : Hid (Below w.heap.size w (W.drewN nq)) := below_drewN BL.out nq
    generalize W.drewN nq = V at *
    clear k0 k1 k2 k3 k4 k5 k6 j0 j1 i0 i1 jf if_ K J G BL x0 hw1 hw2 hw3
    clear W
    have K := K'
    have J := J'
    have G := G'
    have BL := BL'
    clear K' J' G' BL'
    have hw1 : w.heap.size < V.heap.size := K.out.lt
    have hw2 : w.heap.size + 1 < V.heap.size := J.out.lt
    have hw3 : w.heap.size + 2 < V.heap.size := G.out.lt
    obtain ⟨k0, k1, k2, k3, k4, k5, k6⟩ := K.out.seven
    obtain ⟨j0, j1⟩ := J.out.two
    obtain ⟨i0, i1⟩ := G.out.two
    have jf := J.out.frozen
    have if_ := G.out.frozen
    go_wp2_with fail
    have cc : ∀ w', Below (w.heap.size + 2) V w' → w'.cell? ⟨w.heap.size, 2, none⟩ = some (.int .i64 c) := fun w' hb => (K.out.keepB hb (by omega)).cell 2
    clear k0 k1 k2 k3 k4 k5 k6 j0 j1 i0 i1 jf if_
    refine wp_region_held_drew (S := fun w' => Below (w.heap.size + 2) V w') (by kernel_rfl) ?_ (fun hHeld => ?_)
    · exact (Below.refl _ _).drew
    refine wpAnyH_take (i := 0) (oi := { dst := some 44, op := _, type := _, pos := _, after := _, guard := _ }) (v := ?v1x1) rfl (by kernel_rfl) (by kernel_rfl) (by kernel_rfl) (fun _ _ _ h => h) (Or.inl ⟨by rfl, ?hy1x1⟩) hHeld ?rest1x1
    case hy1x1 => (intro w hSw; go_simp <;> with_reducible rfl)
    try simp only [Act.put, List.setIfInBounds_toArray, List.set_cons_zero, List.set_cons_succ]
    refine wpAnyH_take (i := 1) (oi := { dst := some 45, op := _, type := _, pos := _, after := _, guard := _ }) (v := ?v1x2) rfl (by kernel_rfl) (by kernel_rfl) (by kernel_rfl) (fun _ _ _ h => h) (Or.inl ⟨by rfl, ?hy1x2⟩) hHeld ?rest1x2
    case hy1x2 => (intro w hSw; go_simp <;> with_reducible rfl)
    try simp only [Act.put, List.setIfInBounds_toArray, List.set_cons_zero, List.set_cons_succ]
    refine wpAnyH_take (i := 2) (oi := { dst := some 46, op := _, type := _, pos := _, after := _, guard := _ }) (v := ?v1x3) rfl (by kernel_rfl) (by kernel_rfl) (by kernel_rfl) (fun _ _ _ h => h) (Or.inl ⟨by rfl, ?hy1x3⟩) hHeld ?rest1x3
    case hy1x3 => (intro w hSw; go_simp <;> with_reducible rfl)
    try simp only [Act.put, List.setIfInBounds_toArray, List.set_cons_zero, List.set_cons_succ]
    refine wpAnyH_take (i := 3) (oi := { dst := some 47, op := _, type := _, pos := _, after := _, guard := _ }) (v := ?v1x4) rfl (by kernel_rfl) (by kernel_rfl) (by kernel_rfl) (fun _ _ _ h => h) (Or.inl ⟨by rfl, ?hy1x4⟩) hHeld ?rest1x4
    case hy1x4 => (intro w hSw; go_simp <;> with_reducible rfl)
    try simp only [Act.put, List.setIfInBounds_toArray, List.set_cons_zero, List.set_cons_succ]
    refine wpAnyH_ready (rs := [4]) (by kernel_rfl) (by simp) (AllReadyH.cons (o := { dst := some 48, op := _, type := _, pos := _, after := _, guard := _ }) rfl (fun K hK => ?_) AllReadyH.nil)
    go_simp
    refine (HU.out _ (H2.out.keep BL.out.drew)).mono ?_
    rintro e U2 ⟨C, kC, rfl, lC, rC, b2, nC⟩
    have b2x : Below V.heap.size V U2 := below_on ((Below.refl V.heap.size V).drew) b2
    have nCx : ∀ b o, C = some ⟨b, o, none⟩ → V.heap.size ≤ b := nC
    have gU := G.out.keep b2x
    obtain ⟨i0, i1⟩ := gU.two
    have if_ := gU.frozen
    clear gU
    have s2 := b2x.mono (show w.heap.size + 2 ≤ V.heap.size by omega)
    go_wp2_with fail
    refine hK.out _ _ ?_ (fun hHeld => ?_)
    · exact s2
    clear hK K
    try simp only [Act.put, List.setIfInBounds_toArray, List.set_cons_zero, List.set_cons_succ]
    refine wpAnyH_take (i := 5) (oi := { dst := some 49, op := _, type := _, pos := _, after := _, guard := _ }) (v := ?v1x6) rfl (by kernel_rfl) (by kernel_rfl) (by kernel_rfl) (fun _ _ _ h => h) (Or.inl ⟨by rfl, ?hy1x6⟩) hHeld ?rest1x6
    case hy1x6 => (intro w hSw; go_simp <;> with_reducible rfl)
    try simp only [Act.put, List.setIfInBounds_toArray, List.set_cons_zero, List.set_cons_succ]
    refine wpAnyH_ready (rs := [6]) (by kernel_rfl) (by simp) (AllReadyH.cons (o := { dst := none, op := _, type := _, pos := _, after := _, guard := _ }) rfl (fun K hK => ?_) AllReadyH.nil)
    go_simp
    go_wp2_with fail
    refine hK.out _ _ ?_ (fun hHeld => ?_)
    · exact s2.setCell (Nat.le_refl _) _
    clear hK K
    try simp only [Act.put, List.setIfInBounds_toArray, List.set_cons_zero, List.set_cons_succ]
    refine wpAnyH_done (by kernel_rfl) ?_ _
    have KZ : Hid (Blk (U2.setCell ⟨w.heap.size + 2, 0, none⟩ (.slice C mm kC)) w.heap.size 37 _) := (K.out.keep b2x).oth (by omega) 0 _
    have JZ : Hid (Blk (U2.setCell ⟨w.heap.size + 2, 0, none⟩ (.slice C mm kC)) (w.heap.size + 1) 61 _) := (J.out.keep b2x).oth (by omega) 0 _
    have GZ : Hid (Blk (U2.setCell ⟨w.heap.size + 2, 0, none⟩ (.slice C mm kC)) (w.heap.size + 2) 61 [.slice C mm kC, .int .i64 0]) := (G.out.keep b2x).set 0 _
    have BZ : Hid (Below w.heap.size w (U2.setCell ⟨w.heap.size + 2, 0, none⟩ (.slice C mm kC))) := (below_on BL.out b2x).setCell (Nat.le_add_right _ 2) _
    have RZ : Hid (Rd (U2.setCell ⟨w.heap.size + 2, 0, none⟩ (.slice C mm kC)) C mm (iv us)) := rC.set1 (fun b o e => by have := nCx b o e; omega) 0 _
    have NCg : Hid (∀ b o, C = some ⟨b, o, none⟩ → b ≠ w.heap.size + 1) := fun b o e => by have := nCx b o e; omega
    clear s2 hHeld cc hsl2
    clear K J G BL rC nC nCx b2 b2x
    go_wp2_with fail
    clear i0 i1 if_
    generalize U2.setCell ⟨w.heap.size + 2, 0, none⟩ (.slice C mm kC) = Z at *
    go_wp2_with fail
    have c0 := KZ.out.on 0 _ rfl
    have c1 := KZ.out.on 1 _ rfl
    have c2 := KZ.out.on 2 _ rfl
    have c3 := KZ.out.on 3 _ rfl
    have c4 := KZ.out.on 4 _ rfl
    have c5 := KZ.out.on 5 _ rfl
    have c6 := KZ.out.on 6 _ rfl
    have d0 := GZ.out.on 0 _ rfl
    have d1 := GZ.out.on 1 _ rfl
    have HAz := hide (fun W' hr => refAnsMay_any 1 a c t an o 0 A C n k mm kC us W' hr hmm)
    cases hbA : ansMayB 1 c 0 us
    · rw [hbA] at HAz
      have HPz := hide (show ansParseL ⟨1, a, c, vs, t, an, o⟩ xs = none from by rw [HZ.out, hbA, if_neg (by simp)])
      clear hbA
      refine wp_region_held_drew (S := fun w' => Below Z.heap.size Z w') (by kernel_rfl) ?_ (fun hHeld => ?_)
      · exact (Below.refl _ _).drew
      refine wpAnyH_take (i := 0) (oi := { dst := some 67, op := _, type := _, pos := _, after := _, guard := _ }) (v := ?v2x1) rfl (by kernel_rfl) (by kernel_rfl) (by kernel_rfl) (fun _ _ _ h => h) (Or.inl ⟨by rfl, ?hy2x1⟩) hHeld ?rest2x1
      case hy2x1 => (intro w hSw; go_simp <;> with_reducible rfl)
      try simp only [Act.put, List.setIfInBounds_toArray, List.set_cons_zero, List.set_cons_succ]
      refine wpAnyH_take (i := 1) (oi := { dst := some 68, op := _, type := _, pos := _, after := _, guard := _ }) (v := ?v2x2) rfl (by kernel_rfl) (by kernel_rfl) (by kernel_rfl) (fun _ _ _ h => h) (Or.inl ⟨by rfl, ?hy2x2⟩) hHeld ?rest2x2
      case hy2x2 => (intro w hSw; go_simp <;> with_reducible rfl)
      try simp only [Act.put, List.setIfInBounds_toArray, List.set_cons_zero, List.set_cons_succ]
      refine wpAnyH_ready (rs := [2]) (by kernel_rfl) (by simp) (AllReadyH.cons (o := { dst := some 69, op := _, type := _, pos := _, after := _, guard := _ }) rfl (fun K hK => ?_) AllReadyH.nil)
      go_simp
      refine (HAz.out _ (RZ.out.keep hHeld)).mono ?_
      rintro e w7 ⟨rfl, b7⟩
      have s7 := below_on hHeld b7
      go_wp2_with fail
      refine hK.out _ _ ?_ (fun hHeld => ?_)
      · exact s7
      clear hK K
      try simp only [Act.put, List.setIfInBounds_toArray, List.set_cons_zero, List.set_cons_succ]
      refine wpAnyH_take (i := 3) (oi := { dst := some 70, op := _, type := _, pos := _, after := _, guard := _ }) (v := ?v2x4) rfl (by kernel_rfl) (by kernel_rfl) (by kernel_rfl) (fun _ _ _ h => h) (Or.inl ⟨by rfl, ?hy2x4⟩) hHeld ?rest2x4
      case hy2x4 => (intro w hSw; go_simp <;> with_reducible rfl)
      try simp only [Act.put, List.setIfInBounds_toArray, List.set_cons_zero, List.set_cons_succ]
      refine wpAnyH_take (i := 4) (oi := { dst := some 71, op := _, type := _, pos := _, after := _, guard := _ }) (v := ?v2x5) rfl (by kernel_rfl) (by kernel_rfl) (by kernel_rfl) (fun _ _ _ h => h) (Or.inl ⟨by rfl, ?hy2x5⟩) hHeld ?rest2x5
      case hy2x5 => (intro w hSw; go_simp <;> with_reducible rfl)
      try simp only [Act.put, List.setIfInBounds_toArray, List.set_cons_zero, List.set_cons_succ]
      refine wpAnyH_take (i := 5) (oi := { dst := some 72, op := _, type := _, pos := _, after := _, guard := _ }) (v := undef) rfl (by kernel_rfl) (by kernel_rfl) (by kernel_rfl) (fun _ _ _ h => h) (Or.inr ⟨by rfl, rfl⟩) hHeld ?_
      try simp only [Act.put, List.setIfInBounds_toArray, List.set_cons_zero, List.set_cons_succ]
      refine wpAnyH_take (i := 6) (oi := { dst := some 73, op := _, type := _, pos := _, after := _, guard := _ }) (v := undef) rfl (by kernel_rfl) (by kernel_rfl) (by kernel_rfl) (fun _ _ _ h => h) (Or.inr ⟨by rfl, rfl⟩) hHeld ?_
      try simp only [Act.put, List.setIfInBounds_toArray, List.set_cons_zero, List.set_cons_succ]
      refine wpAnyH_take (i := 7) (oi := { dst := some 74, op := _, type := _, pos := _, after := _, guard := _ }) (v := undef) rfl (by kernel_rfl) (by kernel_rfl) (by kernel_rfl) (fun _ _ _ h => h) (Or.inr ⟨by rfl, rfl⟩) hHeld ?_
      try simp only [Act.put, List.setIfInBounds_toArray, List.set_cons_zero, List.set_cons_succ]
      refine wpAnyH_take (i := 8) (oi := { dst := some 75, op := _, type := _, pos := _, after := _, guard := _ }) (v := undef) rfl (by kernel_rfl) (by kernel_rfl) (by kernel_rfl) (fun _ _ _ h => h) (Or.inr ⟨by rfl, rfl⟩) hHeld ?_
      try simp only [Act.put, List.setIfInBounds_toArray, List.set_cons_zero, List.set_cons_succ]
      refine wpAnyH_take (i := 9) (oi := { dst := some 76, op := _, type := _, pos := _, after := _, guard := _ }) (v := undef) rfl (by kernel_rfl) (by kernel_rfl) (by kernel_rfl) (fun _ _ _ h => h) (Or.inr ⟨by rfl, rfl⟩) hHeld ?_
      try simp only [Act.put, List.setIfInBounds_toArray, List.set_cons_zero, List.set_cons_succ]
      refine wpAnyH_take (i := 10) (oi := { dst := some 77, op := _, type := _, pos := _, after := _, guard := _ }) (v := undef) rfl (by kernel_rfl) (by kernel_rfl) (by kernel_rfl) (fun _ _ _ h => h) (Or.inr ⟨by rfl, rfl⟩) hHeld ?_
      try simp only [Act.put, List.setIfInBounds_toArray, List.set_cons_zero, List.set_cons_succ]
      refine wpAnyH_take (i := 11) (oi := { dst := some 78, op := _, type := _, pos := _, after := _, guard := _ }) (v := undef) rfl (by kernel_rfl) (by kernel_rfl) (by kernel_rfl) (fun _ _ _ h => h) (Or.inr ⟨by rfl, rfl⟩) hHeld ?_
      try simp only [Act.put, List.setIfInBounds_toArray, List.set_cons_zero, List.set_cons_succ]
      refine wpAnyH_take (i := 12) (oi := { dst := some 79, op := _, type := _, pos := _, after := _, guard := _ }) (v := ?v2x13) rfl (by kernel_rfl) (by kernel_rfl) (by kernel_rfl) (fun _ _ _ h => h) (Or.inl ⟨by rfl, ?hy2x13⟩) hHeld ?rest2x13
      case hy2x13 => (intro w hSw; go_simp <;> with_reducible rfl)
      try simp only [Act.put, List.setIfInBounds_toArray, List.set_cons_zero, List.set_cons_succ]
      refine wpAnyH_done (by kernel_rfl) ?_ _
      have j8 := JZ.out.keep s7
      have g8 := GZ.out.keep s7
      clear c0 c1 c2 c3 c4 c5 c6 d0 d1
      obtain ⟨j0, j1⟩ := j8.two
      obtain ⟨i0, i1⟩ := g8.two
      have jf := j8.frozen
      have J8 := hide j8
      have B8 := hide (below_on BZ.out s7)
      have R8 := hide (RZ.out.keep s7)
      clear j8 g8 hHeld
      clear s7 b7
      go_wp2_with fail
      (try simp only [Exit.inBlock, Exit.then])
      refine bodyPost_ret (results_cell_tmp rfl rfl (J8.out.set2 _ _) Try.underlying61 rfl (by kernel_rfl)) rfl ?_
      rw [HPz.out]
      exact ⟨none, 0, 0, rfl, Nat.le_refl _, Rd.nil _ _, below_set2 B8.out (Nat.le_succ _) _ _⟩
    · have HLz := hide (fun W' (hb : Below w.heap.size w W') hr => refAns_any 1 a c t an o 0 A C n k mm kC vs us W' (H1.out.keep hb) hr HM.out hbA)
      rw [hbA] at HAz
      have HPy := hide (show ansParseL ⟨1, a, c, vs, t, an, o⟩ xs = _ from by rw [HZ.out, hbA])
      clear hbA
      generalize ansL 1 a c vs t an o 0 us = Y at *
      have hsB := strOn (H2.out.keep BZ.out)
      by_cases hY : Y = xs
      · have qs : (Y != xs) = false := by simp [hY]
        have qs2 : (!(Y == xs)) = false := by simp [hY]
        have HPz := HPy.out
        rw [if_pos ⟨rfl, hY⟩] at HPz
        replace HPz := hide HPz
        clear HPy hY
        refine wp_region_held_drew (S := fun w' => Below Z.heap.size Z w') (by kernel_rfl) ?_ (fun hHeld => ?_)
        · exact (Below.refl _ _).drew
        refine wpAnyH_take (i := 0) (oi := { dst := some 67, op := _, type := _, pos := _, after := _, guard := _ }) (v := ?v3x1) rfl (by kernel_rfl) (by kernel_rfl) (by kernel_rfl) (fun _ _ _ h => h) (Or.inl ⟨by rfl, ?hy3x1⟩) hHeld ?rest3x1
        case hy3x1 => (intro w hSw; go_simp <;> with_reducible rfl)
        try simp only [Act.put, List.setIfInBounds_toArray, List.set_cons_zero, List.set_cons_succ]
        refine wpAnyH_take (i := 1) (oi := { dst := some 68, op := _, type := _, pos := _, after := _, guard := _ }) (v := ?v3x2) rfl (by kernel_rfl) (by kernel_rfl) (by kernel_rfl) (fun _ _ _ h => h) (Or.inl ⟨by rfl, ?hy3x2⟩) hHeld ?rest3x2
        case hy3x2 => (intro w hSw; go_simp <;> with_reducible rfl)
        try simp only [Act.put, List.setIfInBounds_toArray, List.set_cons_zero, List.set_cons_succ]
        refine wpAnyH_ready (rs := [2]) (by kernel_rfl) (by simp) (AllReadyH.cons (o := { dst := some 69, op := _, type := _, pos := _, after := _, guard := _ }) rfl (fun K hK => ?_) AllReadyH.nil)
        go_simp
        refine (HAz.out _ (RZ.out.keep hHeld)).mono ?_
        rintro e w7 ⟨rfl, b7⟩
        have s7 := below_on hHeld b7
        go_wp2_with fail
        refine hK.out _ _ ?_ (fun hHeld => ?_)
        · exact s7
        clear hK K
        try simp only [Act.put, List.setIfInBounds_toArray, List.set_cons_zero, List.set_cons_succ]
        refine wpAnyH_take (i := 3) (oi := { dst := some 70, op := _, type := _, pos := _, after := _, guard := _ }) (v := ?v3x4) rfl (by kernel_rfl) (by kernel_rfl) (by kernel_rfl) (fun _ _ _ h => h) (Or.inl ⟨by rfl, ?hy3x4⟩) hHeld ?rest3x4
        case hy3x4 => (intro w hSw; go_simp <;> with_reducible rfl)
        try simp only [Act.put, List.setIfInBounds_toArray, List.set_cons_zero, List.set_cons_succ]
        refine wpAnyH_take (i := 4) (oi := { dst := some 71, op := _, type := _, pos := _, after := _, guard := _ }) (v := ?v3x5) rfl (by kernel_rfl) (by kernel_rfl) (by kernel_rfl) (fun _ _ _ h => h) (Or.inl ⟨by rfl, ?hy3x5⟩) hHeld ?rest3x5
        case hy3x5 => (intro w hSw; go_simp <;> with_reducible rfl)
        try simp only [Act.put, List.setIfInBounds_toArray, List.set_cons_zero, List.set_cons_succ]
        refine wpAnyH_take (i := 5) (oi := { dst := some 72, op := _, type := _, pos := _, after := _, guard := _ }) (v := ?v3x6) rfl (by kernel_rfl) (by kernel_rfl) (by kernel_rfl) (fun _ _ _ h => h) (Or.inl ⟨by rfl, ?hy3x6⟩) hHeld ?rest3x6
        case hy3x6 => (intro w hSw; go_simp <;> with_reducible rfl)
        try simp only [Act.put, List.setIfInBounds_toArray, List.set_cons_zero, List.set_cons_succ]
        refine wpAnyH_take (i := 6) (oi := { dst := some 73, op := _, type := _, pos := _, after := _, guard := _ }) (v := ?v3x7) rfl (by kernel_rfl) (by kernel_rfl) (by kernel_rfl) (fun _ _ _ h => h) (Or.inl ⟨by rfl, ?hy3x7⟩) hHeld ?rest3x7
        case hy3x7 => (intro w hSw; go_simp <;> with_reducible rfl)
        try simp only [Act.put, List.setIfInBounds_toArray, List.set_cons_zero, List.set_cons_succ]
        refine wpAnyH_take (i := 9) (oi := { dst := some 76, op := _, type := _, pos := _, after := _, guard := _ }) (v := ?v3x8) rfl (by kernel_rfl) (by kernel_rfl) (by kernel_rfl) (fun _ _ _ h => h) (Or.inl ⟨by rfl, ?hy3x8⟩) hHeld ?rest3x8
        case hy3x8 => (intro w hSw; go_simp <;> with_reducible rfl)
        try simp only [Act.put, List.setIfInBounds_toArray, List.set_cons_zero, List.set_cons_succ]
        refine wpAnyH_take (i := 10) (oi := { dst := some 77, op := _, type := _, pos := _, after := _, guard := _ }) (v := ?v3x9) rfl (by kernel_rfl) (by kernel_rfl) (by kernel_rfl) (fun _ _ _ h => h) (Or.inl ⟨by rfl, ?hy3x9⟩) hHeld ?rest3x9
        case hy3x9 => (intro w hSw; go_simp <;> with_reducible rfl)
        try simp only [Act.put, List.setIfInBounds_toArray, List.set_cons_zero, List.set_cons_succ]
        refine wpAnyH_ready (rs := [7]) (by kernel_rfl) (by simp) (AllReadyH.cons (o := { dst := some 74, op := _, type := _, pos := _, after := _, guard := _ }) rfl (fun K hK => ?_) AllReadyH.nil)
        go_simp
        refine (HLz.out _ (below_on BZ.out s7) (RZ.out.keep s7)).mono ?_
        rintro e w8 ⟨E, kE, rfl, lE, rE, b8⟩
        have s8 := below_on s7 b8
        have hsE := strOn rE
        have hsB8 := strOn (H2.out.keep (below_on BZ.out s8))
        go_wp2_with fail
        refine hK.out _ _ ?_ (fun hHeld => ?_)
        · exact below_on hHeld b8
        clear hK K
        try simp only [Act.put, List.setIfInBounds_toArray, List.set_cons_zero, List.set_cons_succ]
        refine wpAnyH_strong (S' := fun w' => Below w8.heap.size w8 w') (by intro w' h; exact below_on hHeld h) ?_
        replace hHeld : (fun w' => Below w8.heap.size w8 w') _ := Below.refl _ _
        refine wpAnyH_take (i := 8) (oi := { dst := some 75, op := _, type := _, pos := _, after := _, guard := _ }) (v := ?v3x11) rfl (by kernel_rfl) (by kernel_rfl) (by kernel_rfl) (fun _ _ _ h => h) (Or.inl ⟨by rfl, ?hy3x11⟩) hHeld ?rest3x11
        case hy3x11 => (intro w hSw; go_simp <;> with_reducible rfl)
        try simp only [Act.put, List.setIfInBounds_toArray, List.set_cons_zero, List.set_cons_succ]
        refine wpAnyH_take (i := 11) (oi := { dst := some 78, op := _, type := _, pos := _, after := _, guard := _ }) (v := ?v3x12) rfl (by kernel_rfl) (by kernel_rfl) (by kernel_rfl) (fun _ _ _ h => h) (Or.inl ⟨by rfl, ?hy3x12⟩) hHeld ?rest3x12
        case hy3x12 => (intro w hSw; go_simp <;> with_reducible rfl)
        try simp only [Act.put, List.setIfInBounds_toArray, List.set_cons_zero, List.set_cons_succ]
        refine wpAnyH_take (i := 12) (oi := { dst := some 79, op := _, type := _, pos := _, after := _, guard := _ }) (v := ?v3x13) rfl (by kernel_rfl) (by kernel_rfl) (by kernel_rfl) (fun _ _ _ h => h) (Or.inl ⟨by rfl, ?hy3x13⟩) hHeld ?rest3x13
        case hy3x13 => (intro w hSw; go_simp <;> with_reducible rfl)
        try simp only [Act.put, List.setIfInBounds_toArray, List.set_cons_zero, List.set_cons_succ]
        refine wpAnyH_done (by kernel_rfl) ?_ _
        clear hsE hsB hsB8 rE
        have j8 := JZ.out.keep s8
        have g8 := GZ.out.keep s8
        clear c0 c1 c2 c3 c4 c5 c6 d0 d1
        obtain ⟨j0, j1⟩ := j8.two
        obtain ⟨i0, i1⟩ := g8.two
        have jf := j8.frozen
        have J8 := hide j8
        have B8 := hide (below_on BZ.out s8)
        have R8 := hide (RZ.out.keep s8)
        clear j8 g8 hHeld
        clear s7 b7 s8 b8
        go_wp2_with fail
        (try simp only [Exit.inBlock, Exit.then])
        refine bodyPost_ret (results_cell_tmp rfl rfl (J8.out.set2 _ _) Try.underlying61 rfl (by kernel_rfl)) rfl ?_
        rw [HPz.out]
        exact ⟨C, mm, kC, rfl, lC, R8.out.set2 NCg.out _ _, below_set2 B8.out (Nat.le_succ _) _ _⟩
      · have qs : (Y != xs) = true := by simp [hY]
        have qs2 : (!(Y == xs)) = true := by simp [hY]
        have HPz := HPy.out
        rw [if_neg (fun h => hY h.2)] at HPz
        replace HPz := hide HPz
        clear HPy hY
        refine wp_region_held_drew (S := fun w' => Below Z.heap.size Z w') (by kernel_rfl) ?_ (fun hHeld => ?_)
        · exact (Below.refl _ _).drew
        refine wpAnyH_take (i := 0) (oi := { dst := some 67, op := _, type := _, pos := _, after := _, guard := _ }) (v := ?v4x1) rfl (by kernel_rfl) (by kernel_rfl) (by kernel_rfl) (fun _ _ _ h => h) (Or.inl ⟨by rfl, ?hy4x1⟩) hHeld ?rest4x1
        case hy4x1 => (intro w hSw; go_simp <;> with_reducible rfl)
        try simp only [Act.put, List.setIfInBounds_toArray, List.set_cons_zero, List.set_cons_succ]
        refine wpAnyH_take (i := 1) (oi := { dst := some 68, op := _, type := _, pos := _, after := _, guard := _ }) (v := ?v4x2) rfl (by kernel_rfl) (by kernel_rfl) (by kernel_rfl) (fun _ _ _ h => h) (Or.inl ⟨by rfl, ?hy4x2⟩) hHeld ?rest4x2
        case hy4x2 => (intro w hSw; go_simp <;> with_reducible rfl)
        try simp only [Act.put, List.setIfInBounds_toArray, List.set_cons_zero, List.set_cons_succ]
        refine wpAnyH_ready (rs := [2]) (by kernel_rfl) (by simp) (AllReadyH.cons (o := { dst := some 69, op := _, type := _, pos := _, after := _, guard := _ }) rfl (fun K hK => ?_) AllReadyH.nil)
        go_simp
        refine (HAz.out _ (RZ.out.keep hHeld)).mono ?_
        rintro e w7 ⟨rfl, b7⟩
        have s7 := below_on hHeld b7
        go_wp2_with fail
        refine hK.out _ _ ?_ (fun hHeld => ?_)
        · exact s7
        clear hK K
        try simp only [Act.put, List.setIfInBounds_toArray, List.set_cons_zero, List.set_cons_succ]
        refine wpAnyH_take (i := 3) (oi := { dst := some 70, op := _, type := _, pos := _, after := _, guard := _ }) (v := ?v4x4) rfl (by kernel_rfl) (by kernel_rfl) (by kernel_rfl) (fun _ _ _ h => h) (Or.inl ⟨by rfl, ?hy4x4⟩) hHeld ?rest4x4
        case hy4x4 => (intro w hSw; go_simp <;> with_reducible rfl)
        try simp only [Act.put, List.setIfInBounds_toArray, List.set_cons_zero, List.set_cons_succ]
        refine wpAnyH_take (i := 4) (oi := { dst := some 71, op := _, type := _, pos := _, after := _, guard := _ }) (v := ?v4x5) rfl (by kernel_rfl) (by kernel_rfl) (by kernel_rfl) (fun _ _ _ h => h) (Or.inl ⟨by rfl, ?hy4x5⟩) hHeld ?rest4x5
        case hy4x5 => (intro w hSw; go_simp <;> with_reducible rfl)
        try simp only [Act.put, List.setIfInBounds_toArray, List.set_cons_zero, List.set_cons_succ]
        refine wpAnyH_take (i := 5) (oi := { dst := some 72, op := _, type := _, pos := _, after := _, guard := _ }) (v := ?v4x6) rfl (by kernel_rfl) (by kernel_rfl) (by kernel_rfl) (fun _ _ _ h => h) (Or.inl ⟨by rfl, ?hy4x6⟩) hHeld ?rest4x6
        case hy4x6 => (intro w hSw; go_simp <;> with_reducible rfl)
        try simp only [Act.put, List.setIfInBounds_toArray, List.set_cons_zero, List.set_cons_succ]
        refine wpAnyH_take (i := 6) (oi := { dst := some 73, op := _, type := _, pos := _, after := _, guard := _ }) (v := ?v4x7) rfl (by kernel_rfl) (by kernel_rfl) (by kernel_rfl) (fun _ _ _ h => h) (Or.inl ⟨by rfl, ?hy4x7⟩) hHeld ?rest4x7
        case hy4x7 => (intro w hSw; go_simp <;> with_reducible rfl)
        try simp only [Act.put, List.setIfInBounds_toArray, List.set_cons_zero, List.set_cons_succ]
        refine wpAnyH_take (i := 9) (oi := { dst := some 76, op := _, type := _, pos := _, after := _, guard := _ }) (v := ?v4x8) rfl (by kernel_rfl) (by kernel_rfl) (by kernel_rfl) (fun _ _ _ h => h) (Or.inl ⟨by rfl, ?hy4x8⟩) hHeld ?rest4x8
        case hy4x8 => (intro w hSw; go_simp <;> with_reducible rfl)
        try simp only [Act.put, List.setIfInBounds_toArray, List.set_cons_zero, List.set_cons_succ]
        refine wpAnyH_take (i := 10) (oi := { dst := some 77, op := _, type := _, pos := _, after := _, guard := _ }) (v := ?v4x9) rfl (by kernel_rfl) (by kernel_rfl) (by kernel_rfl) (fun _ _ _ h => h) (Or.inl ⟨by rfl, ?hy4x9⟩) hHeld ?rest4x9
        case hy4x9 => (intro w hSw; go_simp <;> with_reducible rfl)
        try simp only [Act.put, List.setIfInBounds_toArray, List.set_cons_zero, List.set_cons_succ]
        refine wpAnyH_ready (rs := [7]) (by kernel_rfl) (by simp) (AllReadyH.cons (o := { dst := some 74, op := _, type := _, pos := _, after := _, guard := _ }) rfl (fun K hK => ?_) AllReadyH.nil)
        go_simp
        refine (HLz.out _ (below_on BZ.out s7) (RZ.out.keep s7)).mono ?_
        rintro e w8 ⟨E, kE, rfl, lE, rE, b8⟩
        have s8 := below_on s7 b8
        have hsE := strOn rE
        have hsB8 := strOn (H2.out.keep (below_on BZ.out s8))
        go_wp2_with fail
        refine hK.out _ _ ?_ (fun hHeld => ?_)
        · exact below_on hHeld b8
        clear hK K
        try simp only [Act.put, List.setIfInBounds_toArray, List.set_cons_zero, List.set_cons_succ]
        refine wpAnyH_strong (S' := fun w' => Below w8.heap.size w8 w') (by intro w' h; exact below_on hHeld h) ?_
        replace hHeld : (fun w' => Below w8.heap.size w8 w') _ := Below.refl _ _
        refine wpAnyH_take (i := 8) (oi := { dst := some 75, op := _, type := _, pos := _, after := _, guard := _ }) (v := ?v4x11) rfl (by kernel_rfl) (by kernel_rfl) (by kernel_rfl) (fun _ _ _ h => h) (Or.inl ⟨by rfl, ?hy4x11⟩) hHeld ?rest4x11
        case hy4x11 => (intro w hSw; go_simp <;> with_reducible rfl)
        try simp only [Act.put, List.setIfInBounds_toArray, List.set_cons_zero, List.set_cons_succ]
        refine wpAnyH_take (i := 11) (oi := { dst := some 78, op := _, type := _, pos := _, after := _, guard := _ }) (v := ?v4x12) rfl (by kernel_rfl) (by kernel_rfl) (by kernel_rfl) (fun _ _ _ h => h) (Or.inl ⟨by rfl, ?hy4x12⟩) hHeld ?rest4x12
        case hy4x12 => (intro w hSw; go_simp <;> with_reducible rfl)
        try simp only [Act.put, List.setIfInBounds_toArray, List.set_cons_zero, List.set_cons_succ]
        refine wpAnyH_take (i := 12) (oi := { dst := some 79, op := _, type := _, pos := _, after := _, guard := _ }) (v := ?v4x13) rfl (by kernel_rfl) (by kernel_rfl) (by kernel_rfl) (fun _ _ _ h => h) (Or.inl ⟨by rfl, ?hy4x13⟩) hHeld ?rest4x13
        case hy4x13 => (intro w hSw; go_simp <;> with_reducible rfl)
        try simp only [Act.put, List.setIfInBounds_toArray, List.set_cons_zero, List.set_cons_succ]
        refine wpAnyH_done (by kernel_rfl) ?_ _
        clear hsE hsB hsB8 rE
        have j8 := JZ.out.keep s8
        have g8 := GZ.out.keep s8
        clear c0 c1 c2 c3 c4 c5 c6 d0 d1
        obtain ⟨j0, j1⟩ := j8.two
        obtain ⟨i0, i1⟩ := g8.two
        have jf := j8.frozen
        have J8 := hide j8
        have B8 := hide (below_on BZ.out s8)
        have R8 := hide (RZ.out.keep s8)
        clear j8 g8 hHeld
        clear s7 b7 s8 b8
        go_wp2_with fail
        (try simp only [Exit.inBlock, Exit.then])
        refine bodyPost_ret (results_cell_tmp rfl rfl (J8.out.set2 _ _) Try.underlying61 rfl (by kernel_rfl)) rfl ?_
        rw [HPz.out]
        exact ⟨none, 0, 0, rfl, Nat.le_refl _, Rd.nil _ _, below_set2 B8.out (Nat.le_succ _) _ _⟩
set_option maxRecDepth 100000 in
set_option maxHeartbeats 1000000 in
theorem refAnsP_2 (a c t an o x : Int) (A : Option Addr) (b o' n k l d : Nat) (vs : List Int) (xs : List UInt8) (w : World) (h1 : Rd w A n (iv vs)) (h2 : Rd w (some ⟨b, o', none⟩) l (bv xs)) (hd : l ≤ d) (hl0 : 2 ≤ l) (hl6 : l ≤ 600) (x0 : w.cell? ⟨b, o', none⟩ = some (.int .u8 x)) (hx0 : 0 ≤ x) (hx1 : x ≤ 255) (hM : mayB 2 a c vs t an o = true) (hno : ¬ x = 2 + 128) (hag : ag ⟨2, a, c, vs, t, an, o⟩ xs = ⟨bitsL (xs.drop 2) c.toNat, 0⟩) :
    Calls Try.prog 37 #[.agg #[.int .i64 2, .int .i64 a, .int .i64 c, .slice A n k, .int .i64 t, .int .i64 an, .int .i64 o], .slice (some ⟨b, o', none⟩) l d] w (RetAnB ((ansParseL ⟨2, a, c, vs, t, an, o⟩ xs).getD An.none) (ansParseL ⟨2, a, c, vs, t, an, o⟩ xs).isSome w) := by
  have hbl : b < w.heap.size := block_lt_of_cell x0
  have q0 : (0 : Int) < (l : Int) := by omega
  have q0n : 0 < l := by omega
  have q2 : decide ((l : Int) < 2) = false := by simp; omega
  have X0 := hide x0
  have H1 := hide h1
  have H2 := hide h2
  have HM := hide hM
  have hct := may_count hM
  have hxl : xs.length = l := by rw [← bv_length]; exact h2.1
  have q : (x == 2 + 128) = false := ne_beq hno
  by_cases hs : 8 * (l - 2) < c.toNat
  · have hbn : bitsL (xs.drop 2) c.toNat = [] := by rw [bitsL, if_neg (by rw [List.length_drop]; omega)]
    have HPz := hide (show ansParseL ⟨2, a, c, vs, t, an, o⟩ xs = none from by
      rw [ansParse_eq _ xs _ _ hag, hbn, if_neg]
      rintro ⟨h3, _⟩
      have h4 : ansMayB 2 c 0 [] = true := h3
      have : (([] : List Int).length : Int) = c := by simpa [ansMayB, upToB] using h4
      simp at this
      omega)
    have q8 : decide (8 * ((l : Int) - 2) < c) = true := by simp; omega
    clear x0 h1 h2 hM hag hno hbn hs hct hxl
    go_enter Try.func37, Try.ntmps37
    go_wp2_with fail
    generalize hW : ((w.alloc (.cells #[.int .i64 2, .int .i64 a, .int .i64 c, .slice A n k, .int .i64 t, .int .i64 an, .int .i64 o] 37)).alloc (.cells #[.slice none 0 0, .int .i64 0] 61)).alloc (.cells #[.slice none 0 0, .int .i64 0] 61) = W
    obtain ⟨hB1, hB2, hB3, hBel, hsz⟩ := three_boxes w [.int .i64 2, .int .i64 a, .int .i64 c, .slice A n k, .int .i64 t, .int .i64 an, .int .i64 o] [.slice none 0 0, .int .i64 0] [.slice none 0 0, .int .i64 0] 37 61 61 W hW.symm
    clear hW
    have hw1 : w.heap.size < W.heap.size := by omega
    have hw2 : w.heap.size + 1 < W.heap.size := by omega
    have hw3 : w.heap.size + 2 < W.heap.size := by omega
    have x0 := (hBel.cell (p := ⟨b, o', none⟩) hbl).trans X0.out
    obtain ⟨k0, k1, k2, k3, k4, k5, k6⟩ := hB1.seven
    obtain ⟨j0, j1⟩ := hB2.two
    obtain ⟨i0, i1⟩ := hB3.two
    have jf := hB2.frozen
    have if_ := hB3.frozen
    have K := hide hB1
    have J := hide hB2
    have G := hide hB3
    have BL := hide hBel
    clear hB1 hB2 hB3 hBel hsz
    go_quiet (fail)
    have K' : Hid (Blk (W.drewN nq) w.heap.size 37 _) := K.out
    have J' : Hid (Blk (W.drewN nq) (w.heap.size + 1) 61 _) := J.out
    have G' : Hid (Blk (W.drewN nq) (w.heap.size + 2) 61 _) := G.out
    have BL' : Hid (Below w.heap.size w (W.drewN nq)) := below_drewN BL.out nq
    generalize W.drewN nq = V at *
    clear k0 k1 k2 k3 k4 k5 k6 j0 j1 i0 i1 jf if_ K J G BL x0 hw1 hw2 hw3
    clear W
    have K := K'
    have J := J'
    have G := G'
    have BL := BL'
    clear K' J' G' BL'
    have hw1 : w.heap.size < V.heap.size := K.out.lt
    have hw2 : w.heap.size + 1 < V.heap.size := J.out.lt
    have hw3 : w.heap.size + 2 < V.heap.size := G.out.lt
    obtain ⟨k0, k1, k2, k3, k4, k5, k6⟩ := K.out.seven
    obtain ⟨j0, j1⟩ := J.out.two
    obtain ⟨i0, i1⟩ := G.out.two
    have jf := J.out.frozen
    have if_ := G.out.frozen
    go_wp2_with fail
    (try simp only [Exit.inBlock, Exit.then])
    refine bodyPost_ret (results_cell_tmp rfl rfl (J.out.set2 _ _) Try.underlying61 rfl (by kernel_rfl)) rfl ?_
    rw [HPz.out]
    exact ⟨none, 0, 0, rfl, Nat.le_refl _, Rd.nil _ _, below_set2 BL.out (Nat.le_succ _) _ _⟩
  · have q8 : decide (8 * ((l : Int) - 2) < c) = false := by simp; omega
    have hbe : bitsL (xs.drop 2) c.toNat = unpackL (xs.drop 2) c.toNat := by rw [bitsL, if_pos (by rw [List.length_drop]; omega)]
    rw [hbe] at hag
    have HZ := hide (ansParse_eq ⟨2, a, c, vs, t, an, o⟩ xs _ _ hag)
    have hsl2 := fun W => run_slTail (P := Try.prog) 38 5 Try.underlying38 u8_size (some ⟨b, o', none⟩) l d 2 2 rfl (by omega) W
    have HU := hide (fun W (hr : Rd W (some ⟨b, o', none⟩) l (bv xs)) => (refUnpack_own (cutA (some ⟨b, o', none⟩) 2 d) (l - 2) (d - 2) c.toNat (xs.drop 2) W (by have := hr.tail 2 d (by omega) hd; rwa [bv_drop] at this) (by omega) (by omega)).mono fun _ _ h => h.new)
    rw [show ((c.toNat : Nat) : Int) = c from by omega] at HU
    generalize unpackL (xs.drop 2) c.toNat = us at *
    generalize hmm0 : c.toNat = mm at *
    have hmm : mm ≤ 1000000 := by omega
    clear x0 h1 h2 hM hag hno hbe hs hxl hmm0 hct
    go_enter Try.func37, Try.ntmps37
    go_wp2_with fail
    generalize hW : ((w.alloc (.cells #[.int .i64 2, .int .i64 a, .int .i64 c, .slice A n k, .int .i64 t, .int .i64 an, .int .i64 o] 37)).alloc (.cells #[.slice none 0 0, .int .i64 0] 61)).alloc (.cells #[.slice none 0 0, .int .i64 0] 61) = W
    obtain ⟨hB1, hB2, hB3, hBel, hsz⟩ := three_boxes w [.int .i64 2, .int .i64 a, .int .i64 c, .slice A n k, .int .i64 t, .int .i64 an, .int .i64 o] [.slice none 0 0, .int .i64 0] [.slice none 0 0, .int .i64 0] 37 61 61 W hW.symm
    clear hW
    have hw1 : w.heap.size < W.heap.size := by omega
    have hw2 : w.heap.size + 1 < W.heap.size := by omega
    have hw3 : w.heap.size + 2 < W.heap.size := by omega
    have x0 := (hBel.cell (p := ⟨b, o', none⟩) hbl).trans X0.out
    obtain ⟨k0, k1, k2, k3, k4, k5, k6⟩ := hB1.seven
    obtain ⟨j0, j1⟩ := hB2.two
    obtain ⟨i0, i1⟩ := hB3.two
    have jf := hB2.frozen
    have if_ := hB3.frozen
    have K := hide hB1
    have J := hide hB2
    have G := hide hB3
    have BL := hide hBel
    clear hB1 hB2 hB3 hBel hsz
    go_quiet (fail)
    have K' : Hid (Blk (W.drewN nq) w.heap.size 37 _) := K.out
    have J' : Hid (Blk (W.drewN nq) (w.heap.size + 1) 61 _) := J.out
    have G' : Hid (Blk (W.drewN nq) (w.heap.size + 2) 61 _) := G.out
    have BL' : Hid (Below w.heap.size w (W.drewN nq)) := below_drewN BL.out nq
    generalize W.drewN nq = V at *
    clear k0 k1 k2 k3 k4 k5 k6 j0 j1 i0 i1 jf if_ K J G BL x0 hw1 hw2 hw3
    clear W
    have K := K'
    have J := J'
    have G := G'
    have BL := BL'
    clear K' J' G' BL'
    have hw1 : w.heap.size < V.heap.size := K.out.lt
    have hw2 : w.heap.size + 1 < V.heap.size := J.out.lt
    have hw3 : w.heap.size + 2 < V.heap.size := G.out.lt
    obtain ⟨k0, k1, k2, k3, k4, k5, k6⟩ := K.out.seven
    obtain ⟨j0, j1⟩ := J.out.two
    obtain ⟨i0, i1⟩ := G.out.two
    have jf := J.out.frozen
    have if_ := G.out.frozen
    go_wp2_with fail
    have cc : ∀ w', Below (w.heap.size + 2) V w' → w'.cell? ⟨w.heap.size, 2, none⟩ = some (.int .i64 c) := fun w' hb => (K.out.keepB hb (by omega)).cell 2
    clear k0 k1 k2 k3 k4 k5 k6 j0 j1 i0 i1 jf if_
    refine wp_region_held_drew (S := fun w' => Below (w.heap.size + 2) V w') (by kernel_rfl) ?_ (fun hHeld => ?_)
    · exact (Below.refl _ _).drew
    refine wpAnyH_take (i := 0) (oi := { dst := some 44, op := _, type := _, pos := _, after := _, guard := _ }) (v := ?v5x1) rfl (by kernel_rfl) (by kernel_rfl) (by kernel_rfl) (fun _ _ _ h => h) (Or.inl ⟨by rfl, ?hy5x1⟩) hHeld ?rest5x1
    case hy5x1 => (intro w hSw; go_simp <;> with_reducible rfl)
    try simp only [Act.put, List.setIfInBounds_toArray, List.set_cons_zero, List.set_cons_succ]
    refine wpAnyH_take (i := 1) (oi := { dst := some 45, op := _, type := _, pos := _, after := _, guard := _ }) (v := ?v5x2) rfl (by kernel_rfl) (by kernel_rfl) (by kernel_rfl) (fun _ _ _ h => h) (Or.inl ⟨by rfl, ?hy5x2⟩) hHeld ?rest5x2
    case hy5x2 => (intro w hSw; go_simp <;> with_reducible rfl)
    try simp only [Act.put, List.setIfInBounds_toArray, List.set_cons_zero, List.set_cons_succ]
    refine wpAnyH_take (i := 2) (oi := { dst := some 46, op := _, type := _, pos := _, after := _, guard := _ }) (v := ?v5x3) rfl (by kernel_rfl) (by kernel_rfl) (by kernel_rfl) (fun _ _ _ h => h) (Or.inl ⟨by rfl, ?hy5x3⟩) hHeld ?rest5x3
    case hy5x3 => (intro w hSw; go_simp <;> with_reducible rfl)
    try simp only [Act.put, List.setIfInBounds_toArray, List.set_cons_zero, List.set_cons_succ]
    refine wpAnyH_take (i := 3) (oi := { dst := some 47, op := _, type := _, pos := _, after := _, guard := _ }) (v := ?v5x4) rfl (by kernel_rfl) (by kernel_rfl) (by kernel_rfl) (fun _ _ _ h => h) (Or.inl ⟨by rfl, ?hy5x4⟩) hHeld ?rest5x4
    case hy5x4 => (intro w hSw; go_simp <;> with_reducible rfl)
    try simp only [Act.put, List.setIfInBounds_toArray, List.set_cons_zero, List.set_cons_succ]
    refine wpAnyH_ready (rs := [4]) (by kernel_rfl) (by simp) (AllReadyH.cons (o := { dst := some 48, op := _, type := _, pos := _, after := _, guard := _ }) rfl (fun K hK => ?_) AllReadyH.nil)
    go_simp
    refine (HU.out _ (H2.out.keep BL.out.drew)).mono ?_
    rintro e U2 ⟨C, kC, rfl, lC, rC, b2, nC⟩
    have b2x : Below V.heap.size V U2 := below_on ((Below.refl V.heap.size V).drew) b2
    have nCx : ∀ b o, C = some ⟨b, o, none⟩ → V.heap.size ≤ b := nC
    have gU := G.out.keep b2x
    obtain ⟨i0, i1⟩ := gU.two
    have if_ := gU.frozen
    clear gU
    have s2 := b2x.mono (show w.heap.size + 2 ≤ V.heap.size by omega)
    go_wp2_with fail
    refine hK.out _ _ ?_ (fun hHeld => ?_)
    · exact s2
    clear hK K
    try simp only [Act.put, List.setIfInBounds_toArray, List.set_cons_zero, List.set_cons_succ]
    refine wpAnyH_take (i := 5) (oi := { dst := some 49, op := _, type := _, pos := _, after := _, guard := _ }) (v := ?v5x6) rfl (by kernel_rfl) (by kernel_rfl) (by kernel_rfl) (fun _ _ _ h => h) (Or.inl ⟨by rfl, ?hy5x6⟩) hHeld ?rest5x6
    case hy5x6 => (intro w hSw; go_simp <;> with_reducible rfl)
    try simp only [Act.put, List.setIfInBounds_toArray, List.set_cons_zero, List.set_cons_succ]
    refine wpAnyH_ready (rs := [6]) (by kernel_rfl) (by simp) (AllReadyH.cons (o := { dst := none, op := _, type := _, pos := _, after := _, guard := _ }) rfl (fun K hK => ?_) AllReadyH.nil)
    go_simp
    go_wp2_with fail
    refine hK.out _ _ ?_ (fun hHeld => ?_)
    · exact s2.setCell (Nat.le_refl _) _
    clear hK K
    try simp only [Act.put, List.setIfInBounds_toArray, List.set_cons_zero, List.set_cons_succ]
    refine wpAnyH_done (by kernel_rfl) ?_ _
    have KZ : Hid (Blk (U2.setCell ⟨w.heap.size + 2, 0, none⟩ (.slice C mm kC)) w.heap.size 37 _) := (K.out.keep b2x).oth (by omega) 0 _
    have JZ : Hid (Blk (U2.setCell ⟨w.heap.size + 2, 0, none⟩ (.slice C mm kC)) (w.heap.size + 1) 61 _) := (J.out.keep b2x).oth (by omega) 0 _
    have GZ : Hid (Blk (U2.setCell ⟨w.heap.size + 2, 0, none⟩ (.slice C mm kC)) (w.heap.size + 2) 61 [.slice C mm kC, .int .i64 0]) := (G.out.keep b2x).set 0 _
    have BZ : Hid (Below w.heap.size w (U2.setCell ⟨w.heap.size + 2, 0, none⟩ (.slice C mm kC))) := (below_on BL.out b2x).setCell (Nat.le_add_right _ 2) _
    have RZ : Hid (Rd (U2.setCell ⟨w.heap.size + 2, 0, none⟩ (.slice C mm kC)) C mm (iv us)) := rC.set1 (fun b o e => by have := nCx b o e; omega) 0 _
    have NCg : Hid (∀ b o, C = some ⟨b, o, none⟩ → b ≠ w.heap.size + 1) := fun b o e => by have := nCx b o e; omega
    clear s2 hHeld cc hsl2
    clear K J G BL rC nC nCx b2 b2x
    go_wp2_with fail
    clear i0 i1 if_
    generalize U2.setCell ⟨w.heap.size + 2, 0, none⟩ (.slice C mm kC) = Z at *
    go_wp2_with fail
    have c0 := KZ.out.on 0 _ rfl
    have c1 := KZ.out.on 1 _ rfl
    have c2 := KZ.out.on 2 _ rfl
    have c3 := KZ.out.on 3 _ rfl
    have c4 := KZ.out.on 4 _ rfl
    have c5 := KZ.out.on 5 _ rfl
    have c6 := KZ.out.on 6 _ rfl
    have d0 := GZ.out.on 0 _ rfl
    have d1 := GZ.out.on 1 _ rfl
    have HAz := hide (fun W' hr => refAnsMay_any 2 a c t an o 0 A C n k mm kC us W' hr hmm)
    cases hbA : ansMayB 2 c 0 us
    · rw [hbA] at HAz
      have HPz := hide (show ansParseL ⟨2, a, c, vs, t, an, o⟩ xs = none from by rw [HZ.out, hbA, if_neg (by simp)])
      clear hbA
      refine wp_region_held_drew (S := fun w' => Below Z.heap.size Z w') (by kernel_rfl) ?_ (fun hHeld => ?_)
      · exact (Below.refl _ _).drew
      refine wpAnyH_take (i := 0) (oi := { dst := some 67, op := _, type := _, pos := _, after := _, guard := _ }) (v := ?v6x1) rfl (by kernel_rfl) (by kernel_rfl) (by kernel_rfl) (fun _ _ _ h => h) (Or.inl ⟨by rfl, ?hy6x1⟩) hHeld ?rest6x1
      case hy6x1 => (intro w hSw; go_simp <;> with_reducible rfl)
      try simp only [Act.put, List.setIfInBounds_toArray, List.set_cons_zero, List.set_cons_succ]
      refine wpAnyH_take (i := 1) (oi := { dst := some 68, op := _, type := _, pos := _, after := _, guard := _ }) (v := ?v6x2) rfl (by kernel_rfl) (by kernel_rfl) (by kernel_rfl) (fun _ _ _ h => h) (Or.inl ⟨by rfl, ?hy6x2⟩) hHeld ?rest6x2
      case hy6x2 => (intro w hSw; go_simp <;> with_reducible rfl)
      try simp only [Act.put, List.setIfInBounds_toArray, List.set_cons_zero, List.set_cons_succ]
      refine wpAnyH_ready (rs := [2]) (by kernel_rfl) (by simp) (AllReadyH.cons (o := { dst := some 69, op := _, type := _, pos := _, after := _, guard := _ }) rfl (fun K hK => ?_) AllReadyH.nil)
      go_simp
      refine (HAz.out _ (RZ.out.keep hHeld)).mono ?_
      rintro e w7 ⟨rfl, b7⟩
      have s7 := below_on hHeld b7
      go_wp2_with fail
      refine hK.out _ _ ?_ (fun hHeld => ?_)
      · exact s7
      clear hK K
      try simp only [Act.put, List.setIfInBounds_toArray, List.set_cons_zero, List.set_cons_succ]
      refine wpAnyH_take (i := 3) (oi := { dst := some 70, op := _, type := _, pos := _, after := _, guard := _ }) (v := ?v6x4) rfl (by kernel_rfl) (by kernel_rfl) (by kernel_rfl) (fun _ _ _ h => h) (Or.inl ⟨by rfl, ?hy6x4⟩) hHeld ?rest6x4
      case hy6x4 => (intro w hSw; go_simp <;> with_reducible rfl)
      try simp only [Act.put, List.setIfInBounds_toArray, List.set_cons_zero, List.set_cons_succ]
      refine wpAnyH_take (i := 4) (oi := { dst := some 71, op := _, type := _, pos := _, after := _, guard := _ }) (v := ?v6x5) rfl (by kernel_rfl) (by kernel_rfl) (by kernel_rfl) (fun _ _ _ h => h) (Or.inl ⟨by rfl, ?hy6x5⟩) hHeld ?rest6x5
      case hy6x5 => (intro w hSw; go_simp <;> with_reducible rfl)
      try simp only [Act.put, List.setIfInBounds_toArray, List.set_cons_zero, List.set_cons_succ]
      refine wpAnyH_take (i := 5) (oi := { dst := some 72, op := _, type := _, pos := _, after := _, guard := _ }) (v := undef) rfl (by kernel_rfl) (by kernel_rfl) (by kernel_rfl) (fun _ _ _ h => h) (Or.inr ⟨by rfl, rfl⟩) hHeld ?_
      try simp only [Act.put, List.setIfInBounds_toArray, List.set_cons_zero, List.set_cons_succ]
      refine wpAnyH_take (i := 6) (oi := { dst := some 73, op := _, type := _, pos := _, after := _, guard := _ }) (v := undef) rfl (by kernel_rfl) (by kernel_rfl) (by kernel_rfl) (fun _ _ _ h => h) (Or.inr ⟨by rfl, rfl⟩) hHeld ?_
      try simp only [Act.put, List.setIfInBounds_toArray, List.set_cons_zero, List.set_cons_succ]
      refine wpAnyH_take (i := 7) (oi := { dst := some 74, op := _, type := _, pos := _, after := _, guard := _ }) (v := undef) rfl (by kernel_rfl) (by kernel_rfl) (by kernel_rfl) (fun _ _ _ h => h) (Or.inr ⟨by rfl, rfl⟩) hHeld ?_
      try simp only [Act.put, List.setIfInBounds_toArray, List.set_cons_zero, List.set_cons_succ]
      refine wpAnyH_take (i := 8) (oi := { dst := some 75, op := _, type := _, pos := _, after := _, guard := _ }) (v := undef) rfl (by kernel_rfl) (by kernel_rfl) (by kernel_rfl) (fun _ _ _ h => h) (Or.inr ⟨by rfl, rfl⟩) hHeld ?_
      try simp only [Act.put, List.setIfInBounds_toArray, List.set_cons_zero, List.set_cons_succ]
      refine wpAnyH_take (i := 9) (oi := { dst := some 76, op := _, type := _, pos := _, after := _, guard := _ }) (v := undef) rfl (by kernel_rfl) (by kernel_rfl) (by kernel_rfl) (fun _ _ _ h => h) (Or.inr ⟨by rfl, rfl⟩) hHeld ?_
      try simp only [Act.put, List.setIfInBounds_toArray, List.set_cons_zero, List.set_cons_succ]
      refine wpAnyH_take (i := 10) (oi := { dst := some 77, op := _, type := _, pos := _, after := _, guard := _ }) (v := undef) rfl (by kernel_rfl) (by kernel_rfl) (by kernel_rfl) (fun _ _ _ h => h) (Or.inr ⟨by rfl, rfl⟩) hHeld ?_
      try simp only [Act.put, List.setIfInBounds_toArray, List.set_cons_zero, List.set_cons_succ]
      refine wpAnyH_take (i := 11) (oi := { dst := some 78, op := _, type := _, pos := _, after := _, guard := _ }) (v := undef) rfl (by kernel_rfl) (by kernel_rfl) (by kernel_rfl) (fun _ _ _ h => h) (Or.inr ⟨by rfl, rfl⟩) hHeld ?_
      try simp only [Act.put, List.setIfInBounds_toArray, List.set_cons_zero, List.set_cons_succ]
      refine wpAnyH_take (i := 12) (oi := { dst := some 79, op := _, type := _, pos := _, after := _, guard := _ }) (v := ?v6x13) rfl (by kernel_rfl) (by kernel_rfl) (by kernel_rfl) (fun _ _ _ h => h) (Or.inl ⟨by rfl, ?hy6x13⟩) hHeld ?rest6x13
      case hy6x13 => (intro w hSw; go_simp <;> with_reducible rfl)
      try simp only [Act.put, List.setIfInBounds_toArray, List.set_cons_zero, List.set_cons_succ]
      refine wpAnyH_done (by kernel_rfl) ?_ _
      have j8 := JZ.out.keep s7
      have g8 := GZ.out.keep s7
      clear c0 c1 c2 c3 c4 c5 c6 d0 d1
      obtain ⟨j0, j1⟩ := j8.two
      obtain ⟨i0, i1⟩ := g8.two
      have jf := j8.frozen
      have J8 := hide j8
      have B8 := hide (below_on BZ.out s7)
      have R8 := hide (RZ.out.keep s7)
      clear j8 g8 hHeld
      clear s7 b7
      go_wp2_with fail
      (try simp only [Exit.inBlock, Exit.then])
      refine bodyPost_ret (results_cell_tmp rfl rfl (J8.out.set2 _ _) Try.underlying61 rfl (by kernel_rfl)) rfl ?_
      rw [HPz.out]
      exact ⟨none, 0, 0, rfl, Nat.le_refl _, Rd.nil _ _, below_set2 B8.out (Nat.le_succ _) _ _⟩
    · have HLz := hide (fun W' (hb : Below w.heap.size w W') hr => refAns_any 2 a c t an o 0 A C n k mm kC vs us W' (H1.out.keep hb) hr HM.out hbA)
      rw [hbA] at HAz
      have HPy := hide (show ansParseL ⟨2, a, c, vs, t, an, o⟩ xs = _ from by rw [HZ.out, hbA])
      clear hbA
      generalize ansL 2 a c vs t an o 0 us = Y at *
      have hsB := strOn (H2.out.keep BZ.out)
      by_cases hY : Y = xs
      · have qs : (Y != xs) = false := by simp [hY]
        have qs2 : (!(Y == xs)) = false := by simp [hY]
        have HPz := HPy.out
        rw [if_pos ⟨rfl, hY⟩] at HPz
        replace HPz := hide HPz
        clear HPy hY
        refine wp_region_held_drew (S := fun w' => Below Z.heap.size Z w') (by kernel_rfl) ?_ (fun hHeld => ?_)
        · exact (Below.refl _ _).drew
        refine wpAnyH_take (i := 0) (oi := { dst := some 67, op := _, type := _, pos := _, after := _, guard := _ }) (v := ?v7x1) rfl (by kernel_rfl) (by kernel_rfl) (by kernel_rfl) (fun _ _ _ h => h) (Or.inl ⟨by rfl, ?hy7x1⟩) hHeld ?rest7x1
        case hy7x1 => (intro w hSw; go_simp <;> with_reducible rfl)
        try simp only [Act.put, List.setIfInBounds_toArray, List.set_cons_zero, List.set_cons_succ]
        refine wpAnyH_take (i := 1) (oi := { dst := some 68, op := _, type := _, pos := _, after := _, guard := _ }) (v := ?v7x2) rfl (by kernel_rfl) (by kernel_rfl) (by kernel_rfl) (fun _ _ _ h => h) (Or.inl ⟨by rfl, ?hy7x2⟩) hHeld ?rest7x2
        case hy7x2 => (intro w hSw; go_simp <;> with_reducible rfl)
        try simp only [Act.put, List.setIfInBounds_toArray, List.set_cons_zero, List.set_cons_succ]
        refine wpAnyH_ready (rs := [2]) (by kernel_rfl) (by simp) (AllReadyH.cons (o := { dst := some 69, op := _, type := _, pos := _, after := _, guard := _ }) rfl (fun K hK => ?_) AllReadyH.nil)
        go_simp
        refine (HAz.out _ (RZ.out.keep hHeld)).mono ?_
        rintro e w7 ⟨rfl, b7⟩
        have s7 := below_on hHeld b7
        go_wp2_with fail
        refine hK.out _ _ ?_ (fun hHeld => ?_)
        · exact s7
        clear hK K
        try simp only [Act.put, List.setIfInBounds_toArray, List.set_cons_zero, List.set_cons_succ]
        refine wpAnyH_take (i := 3) (oi := { dst := some 70, op := _, type := _, pos := _, after := _, guard := _ }) (v := ?v7x4) rfl (by kernel_rfl) (by kernel_rfl) (by kernel_rfl) (fun _ _ _ h => h) (Or.inl ⟨by rfl, ?hy7x4⟩) hHeld ?rest7x4
        case hy7x4 => (intro w hSw; go_simp <;> with_reducible rfl)
        try simp only [Act.put, List.setIfInBounds_toArray, List.set_cons_zero, List.set_cons_succ]
        refine wpAnyH_take (i := 4) (oi := { dst := some 71, op := _, type := _, pos := _, after := _, guard := _ }) (v := ?v7x5) rfl (by kernel_rfl) (by kernel_rfl) (by kernel_rfl) (fun _ _ _ h => h) (Or.inl ⟨by rfl, ?hy7x5⟩) hHeld ?rest7x5
        case hy7x5 => (intro w hSw; go_simp <;> with_reducible rfl)
        try simp only [Act.put, List.setIfInBounds_toArray, List.set_cons_zero, List.set_cons_succ]
        refine wpAnyH_take (i := 5) (oi := { dst := some 72, op := _, type := _, pos := _, after := _, guard := _ }) (v := ?v7x6) rfl (by kernel_rfl) (by kernel_rfl) (by kernel_rfl) (fun _ _ _ h => h) (Or.inl ⟨by rfl, ?hy7x6⟩) hHeld ?rest7x6
        case hy7x6 => (intro w hSw; go_simp <;> with_reducible rfl)
        try simp only [Act.put, List.setIfInBounds_toArray, List.set_cons_zero, List.set_cons_succ]
        refine wpAnyH_take (i := 6) (oi := { dst := some 73, op := _, type := _, pos := _, after := _, guard := _ }) (v := ?v7x7) rfl (by kernel_rfl) (by kernel_rfl) (by kernel_rfl) (fun _ _ _ h => h) (Or.inl ⟨by rfl, ?hy7x7⟩) hHeld ?rest7x7
        case hy7x7 => (intro w hSw; go_simp <;> with_reducible rfl)
        try simp only [Act.put, List.setIfInBounds_toArray, List.set_cons_zero, List.set_cons_succ]
        refine wpAnyH_take (i := 9) (oi := { dst := some 76, op := _, type := _, pos := _, after := _, guard := _ }) (v := ?v7x8) rfl (by kernel_rfl) (by kernel_rfl) (by kernel_rfl) (fun _ _ _ h => h) (Or.inl ⟨by rfl, ?hy7x8⟩) hHeld ?rest7x8
        case hy7x8 => (intro w hSw; go_simp <;> with_reducible rfl)
        try simp only [Act.put, List.setIfInBounds_toArray, List.set_cons_zero, List.set_cons_succ]
        refine wpAnyH_take (i := 10) (oi := { dst := some 77, op := _, type := _, pos := _, after := _, guard := _ }) (v := ?v7x9) rfl (by kernel_rfl) (by kernel_rfl) (by kernel_rfl) (fun _ _ _ h => h) (Or.inl ⟨by rfl, ?hy7x9⟩) hHeld ?rest7x9
        case hy7x9 => (intro w hSw; go_simp <;> with_reducible rfl)
        try simp only [Act.put, List.setIfInBounds_toArray, List.set_cons_zero, List.set_cons_succ]
        refine wpAnyH_ready (rs := [7]) (by kernel_rfl) (by simp) (AllReadyH.cons (o := { dst := some 74, op := _, type := _, pos := _, after := _, guard := _ }) rfl (fun K hK => ?_) AllReadyH.nil)
        go_simp
        refine (HLz.out _ (below_on BZ.out s7) (RZ.out.keep s7)).mono ?_
        rintro e w8 ⟨E, kE, rfl, lE, rE, b8⟩
        have s8 := below_on s7 b8
        have hsE := strOn rE
        have hsB8 := strOn (H2.out.keep (below_on BZ.out s8))
        go_wp2_with fail
        refine hK.out _ _ ?_ (fun hHeld => ?_)
        · exact below_on hHeld b8
        clear hK K
        try simp only [Act.put, List.setIfInBounds_toArray, List.set_cons_zero, List.set_cons_succ]
        refine wpAnyH_strong (S' := fun w' => Below w8.heap.size w8 w') (by intro w' h; exact below_on hHeld h) ?_
        replace hHeld : (fun w' => Below w8.heap.size w8 w') _ := Below.refl _ _
        refine wpAnyH_take (i := 8) (oi := { dst := some 75, op := _, type := _, pos := _, after := _, guard := _ }) (v := ?v7x11) rfl (by kernel_rfl) (by kernel_rfl) (by kernel_rfl) (fun _ _ _ h => h) (Or.inl ⟨by rfl, ?hy7x11⟩) hHeld ?rest7x11
        case hy7x11 => (intro w hSw; go_simp <;> with_reducible rfl)
        try simp only [Act.put, List.setIfInBounds_toArray, List.set_cons_zero, List.set_cons_succ]
        refine wpAnyH_take (i := 11) (oi := { dst := some 78, op := _, type := _, pos := _, after := _, guard := _ }) (v := ?v7x12) rfl (by kernel_rfl) (by kernel_rfl) (by kernel_rfl) (fun _ _ _ h => h) (Or.inl ⟨by rfl, ?hy7x12⟩) hHeld ?rest7x12
        case hy7x12 => (intro w hSw; go_simp <;> with_reducible rfl)
        try simp only [Act.put, List.setIfInBounds_toArray, List.set_cons_zero, List.set_cons_succ]
        refine wpAnyH_take (i := 12) (oi := { dst := some 79, op := _, type := _, pos := _, after := _, guard := _ }) (v := ?v7x13) rfl (by kernel_rfl) (by kernel_rfl) (by kernel_rfl) (fun _ _ _ h => h) (Or.inl ⟨by rfl, ?hy7x13⟩) hHeld ?rest7x13
        case hy7x13 => (intro w hSw; go_simp <;> with_reducible rfl)
        try simp only [Act.put, List.setIfInBounds_toArray, List.set_cons_zero, List.set_cons_succ]
        refine wpAnyH_done (by kernel_rfl) ?_ _
        clear hsE hsB hsB8 rE
        have j8 := JZ.out.keep s8
        have g8 := GZ.out.keep s8
        clear c0 c1 c2 c3 c4 c5 c6 d0 d1
        obtain ⟨j0, j1⟩ := j8.two
        obtain ⟨i0, i1⟩ := g8.two
        have jf := j8.frozen
        have J8 := hide j8
        have B8 := hide (below_on BZ.out s8)
        have R8 := hide (RZ.out.keep s8)
        clear j8 g8 hHeld
        clear s7 b7 s8 b8
        go_wp2_with fail
        (try simp only [Exit.inBlock, Exit.then])
        refine bodyPost_ret (results_cell_tmp rfl rfl (J8.out.set2 _ _) Try.underlying61 rfl (by kernel_rfl)) rfl ?_
        rw [HPz.out]
        exact ⟨C, mm, kC, rfl, lC, R8.out.set2 NCg.out _ _, below_set2 B8.out (Nat.le_succ _) _ _⟩
      · have qs : (Y != xs) = true := by simp [hY]
        have qs2 : (!(Y == xs)) = true := by simp [hY]
        have HPz := HPy.out
        rw [if_neg (fun h => hY h.2)] at HPz
        replace HPz := hide HPz
        clear HPy hY
        refine wp_region_held_drew (S := fun w' => Below Z.heap.size Z w') (by kernel_rfl) ?_ (fun hHeld => ?_)
        · exact (Below.refl _ _).drew
        refine wpAnyH_take (i := 0) (oi := { dst := some 67, op := _, type := _, pos := _, after := _, guard := _ }) (v := ?v8x1) rfl (by kernel_rfl) (by kernel_rfl) (by kernel_rfl) (fun _ _ _ h => h) (Or.inl ⟨by rfl, ?hy8x1⟩) hHeld ?rest8x1
        case hy8x1 => (intro w hSw; go_simp <;> with_reducible rfl)
        try simp only [Act.put, List.setIfInBounds_toArray, List.set_cons_zero, List.set_cons_succ]
        refine wpAnyH_take (i := 1) (oi := { dst := some 68, op := _, type := _, pos := _, after := _, guard := _ }) (v := ?v8x2) rfl (by kernel_rfl) (by kernel_rfl) (by kernel_rfl) (fun _ _ _ h => h) (Or.inl ⟨by rfl, ?hy8x2⟩) hHeld ?rest8x2
        case hy8x2 => (intro w hSw; go_simp <;> with_reducible rfl)
        try simp only [Act.put, List.setIfInBounds_toArray, List.set_cons_zero, List.set_cons_succ]
        refine wpAnyH_ready (rs := [2]) (by kernel_rfl) (by simp) (AllReadyH.cons (o := { dst := some 69, op := _, type := _, pos := _, after := _, guard := _ }) rfl (fun K hK => ?_) AllReadyH.nil)
        go_simp
        refine (HAz.out _ (RZ.out.keep hHeld)).mono ?_
        rintro e w7 ⟨rfl, b7⟩
        have s7 := below_on hHeld b7
        go_wp2_with fail
        refine hK.out _ _ ?_ (fun hHeld => ?_)
        · exact s7
        clear hK K
        try simp only [Act.put, List.setIfInBounds_toArray, List.set_cons_zero, List.set_cons_succ]
        refine wpAnyH_take (i := 3) (oi := { dst := some 70, op := _, type := _, pos := _, after := _, guard := _ }) (v := ?v8x4) rfl (by kernel_rfl) (by kernel_rfl) (by kernel_rfl) (fun _ _ _ h => h) (Or.inl ⟨by rfl, ?hy8x4⟩) hHeld ?rest8x4
        case hy8x4 => (intro w hSw; go_simp <;> with_reducible rfl)
        try simp only [Act.put, List.setIfInBounds_toArray, List.set_cons_zero, List.set_cons_succ]
        refine wpAnyH_take (i := 4) (oi := { dst := some 71, op := _, type := _, pos := _, after := _, guard := _ }) (v := ?v8x5) rfl (by kernel_rfl) (by kernel_rfl) (by kernel_rfl) (fun _ _ _ h => h) (Or.inl ⟨by rfl, ?hy8x5⟩) hHeld ?rest8x5
        case hy8x5 => (intro w hSw; go_simp <;> with_reducible rfl)
        try simp only [Act.put, List.setIfInBounds_toArray, List.set_cons_zero, List.set_cons_succ]
        refine wpAnyH_take (i := 5) (oi := { dst := some 72, op := _, type := _, pos := _, after := _, guard := _ }) (v := ?v8x6) rfl (by kernel_rfl) (by kernel_rfl) (by kernel_rfl) (fun _ _ _ h => h) (Or.inl ⟨by rfl, ?hy8x6⟩) hHeld ?rest8x6
        case hy8x6 => (intro w hSw; go_simp <;> with_reducible rfl)
        try simp only [Act.put, List.setIfInBounds_toArray, List.set_cons_zero, List.set_cons_succ]
        refine wpAnyH_take (i := 6) (oi := { dst := some 73, op := _, type := _, pos := _, after := _, guard := _ }) (v := ?v8x7) rfl (by kernel_rfl) (by kernel_rfl) (by kernel_rfl) (fun _ _ _ h => h) (Or.inl ⟨by rfl, ?hy8x7⟩) hHeld ?rest8x7
        case hy8x7 => (intro w hSw; go_simp <;> with_reducible rfl)
        try simp only [Act.put, List.setIfInBounds_toArray, List.set_cons_zero, List.set_cons_succ]
        refine wpAnyH_take (i := 9) (oi := { dst := some 76, op := _, type := _, pos := _, after := _, guard := _ }) (v := ?v8x8) rfl (by kernel_rfl) (by kernel_rfl) (by kernel_rfl) (fun _ _ _ h => h) (Or.inl ⟨by rfl, ?hy8x8⟩) hHeld ?rest8x8
        case hy8x8 => (intro w hSw; go_simp <;> with_reducible rfl)
        try simp only [Act.put, List.setIfInBounds_toArray, List.set_cons_zero, List.set_cons_succ]
        refine wpAnyH_take (i := 10) (oi := { dst := some 77, op := _, type := _, pos := _, after := _, guard := _ }) (v := ?v8x9) rfl (by kernel_rfl) (by kernel_rfl) (by kernel_rfl) (fun _ _ _ h => h) (Or.inl ⟨by rfl, ?hy8x9⟩) hHeld ?rest8x9
        case hy8x9 => (intro w hSw; go_simp <;> with_reducible rfl)
        try simp only [Act.put, List.setIfInBounds_toArray, List.set_cons_zero, List.set_cons_succ]
        refine wpAnyH_ready (rs := [7]) (by kernel_rfl) (by simp) (AllReadyH.cons (o := { dst := some 74, op := _, type := _, pos := _, after := _, guard := _ }) rfl (fun K hK => ?_) AllReadyH.nil)
        go_simp
        refine (HLz.out _ (below_on BZ.out s7) (RZ.out.keep s7)).mono ?_
        rintro e w8 ⟨E, kE, rfl, lE, rE, b8⟩
        have s8 := below_on s7 b8
        have hsE := strOn rE
        have hsB8 := strOn (H2.out.keep (below_on BZ.out s8))
        go_wp2_with fail
        refine hK.out _ _ ?_ (fun hHeld => ?_)
        · exact below_on hHeld b8
        clear hK K
        try simp only [Act.put, List.setIfInBounds_toArray, List.set_cons_zero, List.set_cons_succ]
        refine wpAnyH_strong (S' := fun w' => Below w8.heap.size w8 w') (by intro w' h; exact below_on hHeld h) ?_
        replace hHeld : (fun w' => Below w8.heap.size w8 w') _ := Below.refl _ _
        refine wpAnyH_take (i := 8) (oi := { dst := some 75, op := _, type := _, pos := _, after := _, guard := _ }) (v := ?v8x11) rfl (by kernel_rfl) (by kernel_rfl) (by kernel_rfl) (fun _ _ _ h => h) (Or.inl ⟨by rfl, ?hy8x11⟩) hHeld ?rest8x11
        case hy8x11 => (intro w hSw; go_simp <;> with_reducible rfl)
        try simp only [Act.put, List.setIfInBounds_toArray, List.set_cons_zero, List.set_cons_succ]
        refine wpAnyH_take (i := 11) (oi := { dst := some 78, op := _, type := _, pos := _, after := _, guard := _ }) (v := ?v8x12) rfl (by kernel_rfl) (by kernel_rfl) (by kernel_rfl) (fun _ _ _ h => h) (Or.inl ⟨by rfl, ?hy8x12⟩) hHeld ?rest8x12
        case hy8x12 => (intro w hSw; go_simp <;> with_reducible rfl)
        try simp only [Act.put, List.setIfInBounds_toArray, List.set_cons_zero, List.set_cons_succ]
        refine wpAnyH_take (i := 12) (oi := { dst := some 79, op := _, type := _, pos := _, after := _, guard := _ }) (v := ?v8x13) rfl (by kernel_rfl) (by kernel_rfl) (by kernel_rfl) (fun _ _ _ h => h) (Or.inl ⟨by rfl, ?hy8x13⟩) hHeld ?rest8x13
        case hy8x13 => (intro w hSw; go_simp <;> with_reducible rfl)
        try simp only [Act.put, List.setIfInBounds_toArray, List.set_cons_zero, List.set_cons_succ]
        refine wpAnyH_done (by kernel_rfl) ?_ _
        clear hsE hsB hsB8 rE
        have j8 := JZ.out.keep s8
        have g8 := GZ.out.keep s8
        clear c0 c1 c2 c3 c4 c5 c6 d0 d1
        obtain ⟨j0, j1⟩ := j8.two
        obtain ⟨i0, i1⟩ := g8.two
        have jf := j8.frozen
        have J8 := hide j8
        have B8 := hide (below_on BZ.out s8)
        have R8 := hide (RZ.out.keep s8)
        clear j8 g8 hHeld
        clear s7 b7 s8 b8
        go_wp2_with fail
        (try simp only [Exit.inBlock, Exit.then])
        refine bodyPost_ret (results_cell_tmp rfl rfl (J8.out.set2 _ _) Try.underlying61 rfl (by kernel_rfl)) rfl ?_
        rw [HPz.out]
        exact ⟨none, 0, 0, rfl, Nat.le_refl _, Rd.nil _ _, below_set2 B8.out (Nat.le_succ _) _ _⟩

set_option maxRecDepth 100000 in
set_option maxHeartbeats 1000000 in
theorem refAnsP_3 (a c t an o x : Int) (A : Option Addr) (b o' n k l d : Nat) (vs : List Int) (xs : List UInt8) (w : World) (h1 : Rd w A n (iv vs)) (h2 : Rd w (some ⟨b, o', none⟩) l (bv xs)) (hd : l ≤ d) (hl0 : 2 ≤ l) (hl6 : l ≤ 600) (x0 : w.cell? ⟨b, o', none⟩ = some (.int .u8 x)) (hx0 : 0 ≤ x) (hx1 : x ≤ 255) (hM : mayB 3 a c vs t an o = true) (hno : ¬ x = 3 + 128) (hag : ag ⟨3, a, c, vs, t, an, o⟩ xs = ⟨wordsL (xs.drop 2), 0⟩) :
    Calls Try.prog 37 #[.agg #[.int .i64 3, .int .i64 a, .int .i64 c, .slice A n k, .int .i64 t, .int .i64 an, .int .i64 o], .slice (some ⟨b, o', none⟩) l d] w (RetAnB ((ansParseL ⟨3, a, c, vs, t, an, o⟩ xs).getD An.none) (ansParseL ⟨3, a, c, vs, t, an, o⟩ xs).isSome w) := by
  have hbl : b < w.heap.size := block_lt_of_cell x0
  have q0 : (0 : Int) < (l : Int) := by omega
  have q0n : 0 < l := by omega
  have q2 : decide ((l : Int) < 2) = false := by simp; omega
  have X0 := hide x0
  have H1 := hide h1
  have H2 := hide h2
  have HM := hide hM
  have hct := may_count hM
  have hxl : xs.length = l := by rw [← bv_length]; exact h2.1
  have q : (x == 3 + 128) = false := ne_beq hno
  have HZ := hide (ansParse_eq ⟨3, a, c, vs, t, an, o⟩ xs _ _ hag)
  have hsl2 := fun W => run_slTail (P := Try.prog) 38 5 Try.underlying38 u8_size (some ⟨b, o', none⟩) l d 2 2 rfl (by omega) W
  have HU := hide (fun W (hr : Rd W (some ⟨b, o', none⟩) l (bv xs)) => (refRead_any (cutA (some ⟨b, o', none⟩) 2 d) (l - 2) (d - 2) (xs.drop 2) W (by have := hr.tail 2 d (by omega) hd; rwa [bv_drop] at this) (by omega) (by omega) ((l - 2) / 2) rfl).mono fun _ _ h => h.new)
  generalize wordsL (xs.drop 2) = us at *
  generalize hmm0 : (l - 2) / 2 = mm at *
  have hmm : mm ≤ 1000000 := by omega
  clear x0 h1 h2 hM hag hno hxl hmm0 hct
  go_enter Try.func37, Try.ntmps37
  go_wp2_with fail
  generalize hW : ((w.alloc (.cells #[.int .i64 3, .int .i64 a, .int .i64 c, .slice A n k, .int .i64 t, .int .i64 an, .int .i64 o] 37)).alloc (.cells #[.slice none 0 0, .int .i64 0] 61)).alloc (.cells #[.slice none 0 0, .int .i64 0] 61) = W
  obtain ⟨hB1, hB2, hB3, hBel, hsz⟩ := three_boxes w [.int .i64 3, .int .i64 a, .int .i64 c, .slice A n k, .int .i64 t, .int .i64 an, .int .i64 o] [.slice none 0 0, .int .i64 0] [.slice none 0 0, .int .i64 0] 37 61 61 W hW.symm
  clear hW
  have hw1 : w.heap.size < W.heap.size := by omega
  have hw2 : w.heap.size + 1 < W.heap.size := by omega
  have hw3 : w.heap.size + 2 < W.heap.size := by omega
  have x0 := (hBel.cell (p := ⟨b, o', none⟩) hbl).trans X0.out
  obtain ⟨k0, k1, k2, k3, k4, k5, k6⟩ := hB1.seven
  obtain ⟨j0, j1⟩ := hB2.two
  obtain ⟨i0, i1⟩ := hB3.two
  have jf := hB2.frozen
  have if_ := hB3.frozen
  have K := hide hB1
  have J := hide hB2
  have G := hide hB3
  have BL := hide hBel
  clear hB1 hB2 hB3 hBel hsz
  go_quiet (fail)
  have K' : Hid (Blk (W.drewN nq) w.heap.size 37 _) := K.out
  have J' : Hid (Blk (W.drewN nq) (w.heap.size + 1) 61 _) := J.out
  have G' : Hid (Blk (W.drewN nq) (w.heap.size + 2) 61 _) := G.out
  have BL' : Hid (Below w.heap.size w (W.drewN nq)) := below_drewN BL.out nq
  generalize W.drewN nq = V at *
  clear k0 k1 k2 k3 k4 k5 k6 j0 j1 i0 i1 jf if_ K J G BL x0 hw1 hw2 hw3
  clear W
  have K := K'
  have J := J'
  have G := G'
  have BL := BL'
  clear K' J' G' BL'
  have hw1 : w.heap.size < V.heap.size := K.out.lt
  have hw2 : w.heap.size + 1 < V.heap.size := J.out.lt
  have hw3 : w.heap.size + 2 < V.heap.size := G.out.lt
  obtain ⟨k0, k1, k2, k3, k4, k5, k6⟩ := K.out.seven
  obtain ⟨j0, j1⟩ := J.out.two
  obtain ⟨i0, i1⟩ := G.out.two
  have jf := J.out.frozen
  have if_ := G.out.frozen
  go_wp2_with fail
  refine (HU.out _ (H2.out.keep BL.out)).mono ?_
  rintro e U2 ⟨C, kC, rfl, lC, rC, b2, nC⟩
  clear k0 k1 k2 k3 k4 k5 k6 j0 j1 i0 i1 jf if_ hsl2
  have b2x := b2
  have nCx := nC
  have gU := G.out.keep b2x
  obtain ⟨i0, i1⟩ := gU.two
  have if_ := gU.frozen
  clear gU
  have KZ : Hid (Blk (U2.setCell ⟨w.heap.size + 2, 0, none⟩ (.slice C mm kC)) w.heap.size 37 _) := (K.out.keep b2x).oth (by omega) 0 _
  have JZ : Hid (Blk (U2.setCell ⟨w.heap.size + 2, 0, none⟩ (.slice C mm kC)) (w.heap.size + 1) 61 _) := (J.out.keep b2x).oth (by omega) 0 _
  have GZ : Hid (Blk (U2.setCell ⟨w.heap.size + 2, 0, none⟩ (.slice C mm kC)) (w.heap.size + 2) 61 [.slice C mm kC, .int .i64 0]) := (G.out.keep b2x).set 0 _
  have BZ : Hid (Below w.heap.size w (U2.setCell ⟨w.heap.size + 2, 0, none⟩ (.slice C mm kC))) := (below_on BL.out b2x).setCell (Nat.le_add_right _ 2) _
  have RZ : Hid (Rd (U2.setCell ⟨w.heap.size + 2, 0, none⟩ (.slice C mm kC)) C mm (iv us)) := rC.set1 (fun b o e => by have := nCx b o e; omega) 0 _
  have NCg : Hid (∀ b o, C = some ⟨b, o, none⟩ → b ≠ w.heap.size + 1) := fun b o e => by have := nCx b o e; omega
  clear K J G BL rC nC nCx b2 b2x
  go_wp2_with fail
  clear i0 i1 if_
  generalize U2.setCell ⟨w.heap.size + 2, 0, none⟩ (.slice C mm kC) = Z at *
  go_wp2_with fail
  have c0 := KZ.out.on 0 _ rfl
  have c1 := KZ.out.on 1 _ rfl
  have c2 := KZ.out.on 2 _ rfl
  have c3 := KZ.out.on 3 _ rfl
  have c4 := KZ.out.on 4 _ rfl
  have c5 := KZ.out.on 5 _ rfl
  have c6 := KZ.out.on 6 _ rfl
  have d0 := GZ.out.on 0 _ rfl
  have d1 := GZ.out.on 1 _ rfl
  have HAz := hide (fun W' hr => refAnsMay_any 3 a c t an o 0 A C n k mm kC us W' hr hmm)
  cases hbA : ansMayB 3 c 0 us
  · rw [hbA] at HAz
    have HPz := hide (show ansParseL ⟨3, a, c, vs, t, an, o⟩ xs = none from by rw [HZ.out, hbA, if_neg (by simp)])
    clear hbA
    refine wp_region_held_drew (S := fun w' => Below Z.heap.size Z w') (by kernel_rfl) ?_ (fun hHeld => ?_)
    · exact (Below.refl _ _).drew
    refine wpAnyH_take (i := 0) (oi := { dst := some 67, op := _, type := _, pos := _, after := _, guard := _ }) (v := ?v9x1) rfl (by kernel_rfl) (by kernel_rfl) (by kernel_rfl) (fun _ _ _ h => h) (Or.inl ⟨by rfl, ?hy9x1⟩) hHeld ?rest9x1
    case hy9x1 => (intro w hSw; go_simp <;> with_reducible rfl)
    try simp only [Act.put, List.setIfInBounds_toArray, List.set_cons_zero, List.set_cons_succ]
    refine wpAnyH_take (i := 1) (oi := { dst := some 68, op := _, type := _, pos := _, after := _, guard := _ }) (v := ?v9x2) rfl (by kernel_rfl) (by kernel_rfl) (by kernel_rfl) (fun _ _ _ h => h) (Or.inl ⟨by rfl, ?hy9x2⟩) hHeld ?rest9x2
    case hy9x2 => (intro w hSw; go_simp <;> with_reducible rfl)
    try simp only [Act.put, List.setIfInBounds_toArray, List.set_cons_zero, List.set_cons_succ]
    refine wpAnyH_ready (rs := [2]) (by kernel_rfl) (by simp) (AllReadyH.cons (o := { dst := some 69, op := _, type := _, pos := _, after := _, guard := _ }) rfl (fun K hK => ?_) AllReadyH.nil)
    go_simp
    refine (HAz.out _ (RZ.out.keep hHeld)).mono ?_
    rintro e w7 ⟨rfl, b7⟩
    have s7 := below_on hHeld b7
    go_wp2_with fail
    refine hK.out _ _ ?_ (fun hHeld => ?_)
    · exact s7
    clear hK K
    try simp only [Act.put, List.setIfInBounds_toArray, List.set_cons_zero, List.set_cons_succ]
    refine wpAnyH_take (i := 3) (oi := { dst := some 70, op := _, type := _, pos := _, after := _, guard := _ }) (v := ?v9x4) rfl (by kernel_rfl) (by kernel_rfl) (by kernel_rfl) (fun _ _ _ h => h) (Or.inl ⟨by rfl, ?hy9x4⟩) hHeld ?rest9x4
    case hy9x4 => (intro w hSw; go_simp <;> with_reducible rfl)
    try simp only [Act.put, List.setIfInBounds_toArray, List.set_cons_zero, List.set_cons_succ]
    refine wpAnyH_take (i := 4) (oi := { dst := some 71, op := _, type := _, pos := _, after := _, guard := _ }) (v := ?v9x5) rfl (by kernel_rfl) (by kernel_rfl) (by kernel_rfl) (fun _ _ _ h => h) (Or.inl ⟨by rfl, ?hy9x5⟩) hHeld ?rest9x5
    case hy9x5 => (intro w hSw; go_simp <;> with_reducible rfl)
    try simp only [Act.put, List.setIfInBounds_toArray, List.set_cons_zero, List.set_cons_succ]
    refine wpAnyH_take (i := 5) (oi := { dst := some 72, op := _, type := _, pos := _, after := _, guard := _ }) (v := undef) rfl (by kernel_rfl) (by kernel_rfl) (by kernel_rfl) (fun _ _ _ h => h) (Or.inr ⟨by rfl, rfl⟩) hHeld ?_
    try simp only [Act.put, List.setIfInBounds_toArray, List.set_cons_zero, List.set_cons_succ]
    refine wpAnyH_take (i := 6) (oi := { dst := some 73, op := _, type := _, pos := _, after := _, guard := _ }) (v := undef) rfl (by kernel_rfl) (by kernel_rfl) (by kernel_rfl) (fun _ _ _ h => h) (Or.inr ⟨by rfl, rfl⟩) hHeld ?_
    try simp only [Act.put, List.setIfInBounds_toArray, List.set_cons_zero, List.set_cons_succ]
    refine wpAnyH_take (i := 7) (oi := { dst := some 74, op := _, type := _, pos := _, after := _, guard := _ }) (v := undef) rfl (by kernel_rfl) (by kernel_rfl) (by kernel_rfl) (fun _ _ _ h => h) (Or.inr ⟨by rfl, rfl⟩) hHeld ?_
    try simp only [Act.put, List.setIfInBounds_toArray, List.set_cons_zero, List.set_cons_succ]
    refine wpAnyH_take (i := 8) (oi := { dst := some 75, op := _, type := _, pos := _, after := _, guard := _ }) (v := undef) rfl (by kernel_rfl) (by kernel_rfl) (by kernel_rfl) (fun _ _ _ h => h) (Or.inr ⟨by rfl, rfl⟩) hHeld ?_
    try simp only [Act.put, List.setIfInBounds_toArray, List.set_cons_zero, List.set_cons_succ]
    refine wpAnyH_take (i := 9) (oi := { dst := some 76, op := _, type := _, pos := _, after := _, guard := _ }) (v := undef) rfl (by kernel_rfl) (by kernel_rfl) (by kernel_rfl) (fun _ _ _ h => h) (Or.inr ⟨by rfl, rfl⟩) hHeld ?_
    try simp only [Act.put, List.setIfInBounds_toArray, List.set_cons_zero, List.set_cons_succ]
    refine wpAnyH_take (i := 10) (oi := { dst := some 77, op := _, type := _, pos := _, after := _, guard := _ }) (v := undef) rfl (by kernel_rfl) (by kernel_rfl) (by kernel_rfl) (fun _ _ _ h => h) (Or.inr ⟨by rfl, rfl⟩) hHeld ?_
    try simp only [Act.put, List.setIfInBounds_toArray, List.set_cons_zero, List.set_cons_succ]
    refine wpAnyH_take (i := 11) (oi := { dst := some 78, op := _, type := _, pos := _, after := _, guard := _ }) (v := undef) rfl (by kernel_rfl) (by kernel_rfl) (by kernel_rfl) (fun _ _ _ h => h) (Or.inr ⟨by rfl, rfl⟩) hHeld ?_
    try simp only [Act.put, List.setIfInBounds_toArray, List.set_cons_zero, List.set_cons_succ]
    refine wpAnyH_take (i := 12) (oi := { dst := some 79, op := _, type := _, pos := _, after := _, guard := _ }) (v := ?v9x13) rfl (by kernel_rfl) (by kernel_rfl) (by kernel_rfl) (fun _ _ _ h => h) (Or.inl ⟨by rfl, ?hy9x13⟩) hHeld ?rest9x13
    case hy9x13 => (intro w hSw; go_simp <;> with_reducible rfl)
    try simp only [Act.put, List.setIfInBounds_toArray, List.set_cons_zero, List.set_cons_succ]
    refine wpAnyH_done (by kernel_rfl) ?_ _
    have j8 := JZ.out.keep s7
    have g8 := GZ.out.keep s7
    clear c0 c1 c2 c3 c4 c5 c6 d0 d1
    obtain ⟨j0, j1⟩ := j8.two
    obtain ⟨i0, i1⟩ := g8.two
    have jf := j8.frozen
    have J8 := hide j8
    have B8 := hide (below_on BZ.out s7)
    have R8 := hide (RZ.out.keep s7)
    clear j8 g8 hHeld
    clear s7 b7
    go_wp2_with fail
    (try simp only [Exit.inBlock, Exit.then])
    refine bodyPost_ret (results_cell_tmp rfl rfl (J8.out.set2 _ _) Try.underlying61 rfl (by kernel_rfl)) rfl ?_
    rw [HPz.out]
    exact ⟨none, 0, 0, rfl, Nat.le_refl _, Rd.nil _ _, below_set2 B8.out (Nat.le_succ _) _ _⟩
  · have HLz := hide (fun W' (hb : Below w.heap.size w W') hr => refAns_any 3 a c t an o 0 A C n k mm kC vs us W' (H1.out.keep hb) hr HM.out hbA)
    rw [hbA] at HAz
    have HPy := hide (show ansParseL ⟨3, a, c, vs, t, an, o⟩ xs = _ from by rw [HZ.out, hbA])
    clear hbA
    generalize ansL 3 a c vs t an o 0 us = Y at *
    have hsB := strOn (H2.out.keep BZ.out)
    by_cases hY : Y = xs
    · have qs : (Y != xs) = false := by simp [hY]
      have qs2 : (!(Y == xs)) = false := by simp [hY]
      have HPz := HPy.out
      rw [if_pos ⟨rfl, hY⟩] at HPz
      replace HPz := hide HPz
      clear HPy hY
      refine wp_region_held_drew (S := fun w' => Below Z.heap.size Z w') (by kernel_rfl) ?_ (fun hHeld => ?_)
      · exact (Below.refl _ _).drew
      refine wpAnyH_take (i := 0) (oi := { dst := some 67, op := _, type := _, pos := _, after := _, guard := _ }) (v := ?v10x1) rfl (by kernel_rfl) (by kernel_rfl) (by kernel_rfl) (fun _ _ _ h => h) (Or.inl ⟨by rfl, ?hy10x1⟩) hHeld ?rest10x1
      case hy10x1 => (intro w hSw; go_simp <;> with_reducible rfl)
      try simp only [Act.put, List.setIfInBounds_toArray, List.set_cons_zero, List.set_cons_succ]
      refine wpAnyH_take (i := 1) (oi := { dst := some 68, op := _, type := _, pos := _, after := _, guard := _ }) (v := ?v10x2) rfl (by kernel_rfl) (by kernel_rfl) (by kernel_rfl) (fun _ _ _ h => h) (Or.inl ⟨by rfl, ?hy10x2⟩) hHeld ?rest10x2
      case hy10x2 => (intro w hSw; go_simp <;> with_reducible rfl)
      try simp only [Act.put, List.setIfInBounds_toArray, List.set_cons_zero, List.set_cons_succ]
      refine wpAnyH_ready (rs := [2]) (by kernel_rfl) (by simp) (AllReadyH.cons (o := { dst := some 69, op := _, type := _, pos := _, after := _, guard := _ }) rfl (fun K hK => ?_) AllReadyH.nil)
      go_simp
      refine (HAz.out _ (RZ.out.keep hHeld)).mono ?_
      rintro e w7 ⟨rfl, b7⟩
      have s7 := below_on hHeld b7
      go_wp2_with fail
      refine hK.out _ _ ?_ (fun hHeld => ?_)
      · exact s7
      clear hK K
      try simp only [Act.put, List.setIfInBounds_toArray, List.set_cons_zero, List.set_cons_succ]
      refine wpAnyH_take (i := 3) (oi := { dst := some 70, op := _, type := _, pos := _, after := _, guard := _ }) (v := ?v10x4) rfl (by kernel_rfl) (by kernel_rfl) (by kernel_rfl) (fun _ _ _ h => h) (Or.inl ⟨by rfl, ?hy10x4⟩) hHeld ?rest10x4
      case hy10x4 => (intro w hSw; go_simp <;> with_reducible rfl)
      try simp only [Act.put, List.setIfInBounds_toArray, List.set_cons_zero, List.set_cons_succ]
      refine wpAnyH_take (i := 4) (oi := { dst := some 71, op := _, type := _, pos := _, after := _, guard := _ }) (v := ?v10x5) rfl (by kernel_rfl) (by kernel_rfl) (by kernel_rfl) (fun _ _ _ h => h) (Or.inl ⟨by rfl, ?hy10x5⟩) hHeld ?rest10x5
      case hy10x5 => (intro w hSw; go_simp <;> with_reducible rfl)
      try simp only [Act.put, List.setIfInBounds_toArray, List.set_cons_zero, List.set_cons_succ]
      refine wpAnyH_take (i := 5) (oi := { dst := some 72, op := _, type := _, pos := _, after := _, guard := _ }) (v := ?v10x6) rfl (by kernel_rfl) (by kernel_rfl) (by kernel_rfl) (fun _ _ _ h => h) (Or.inl ⟨by rfl, ?hy10x6⟩) hHeld ?rest10x6
      case hy10x6 => (intro w hSw; go_simp <;> with_reducible rfl)
      try simp only [Act.put, List.setIfInBounds_toArray, List.set_cons_zero, List.set_cons_succ]
      refine wpAnyH_take (i := 6) (oi := { dst := some 73, op := _, type := _, pos := _, after := _, guard := _ }) (v := ?v10x7) rfl (by kernel_rfl) (by kernel_rfl) (by kernel_rfl) (fun _ _ _ h => h) (Or.inl ⟨by rfl, ?hy10x7⟩) hHeld ?rest10x7
      case hy10x7 => (intro w hSw; go_simp <;> with_reducible rfl)
      try simp only [Act.put, List.setIfInBounds_toArray, List.set_cons_zero, List.set_cons_succ]
      refine wpAnyH_take (i := 9) (oi := { dst := some 76, op := _, type := _, pos := _, after := _, guard := _ }) (v := ?v10x8) rfl (by kernel_rfl) (by kernel_rfl) (by kernel_rfl) (fun _ _ _ h => h) (Or.inl ⟨by rfl, ?hy10x8⟩) hHeld ?rest10x8
      case hy10x8 => (intro w hSw; go_simp <;> with_reducible rfl)
      try simp only [Act.put, List.setIfInBounds_toArray, List.set_cons_zero, List.set_cons_succ]
      refine wpAnyH_take (i := 10) (oi := { dst := some 77, op := _, type := _, pos := _, after := _, guard := _ }) (v := ?v10x9) rfl (by kernel_rfl) (by kernel_rfl) (by kernel_rfl) (fun _ _ _ h => h) (Or.inl ⟨by rfl, ?hy10x9⟩) hHeld ?rest10x9
      case hy10x9 => (intro w hSw; go_simp <;> with_reducible rfl)
      try simp only [Act.put, List.setIfInBounds_toArray, List.set_cons_zero, List.set_cons_succ]
      refine wpAnyH_ready (rs := [7]) (by kernel_rfl) (by simp) (AllReadyH.cons (o := { dst := some 74, op := _, type := _, pos := _, after := _, guard := _ }) rfl (fun K hK => ?_) AllReadyH.nil)
      go_simp
      refine (HLz.out _ (below_on BZ.out s7) (RZ.out.keep s7)).mono ?_
      rintro e w8 ⟨E, kE, rfl, lE, rE, b8⟩
      have s8 := below_on s7 b8
      have hsE := strOn rE
      have hsB8 := strOn (H2.out.keep (below_on BZ.out s8))
      go_wp2_with fail
      refine hK.out _ _ ?_ (fun hHeld => ?_)
      · exact below_on hHeld b8
      clear hK K
      try simp only [Act.put, List.setIfInBounds_toArray, List.set_cons_zero, List.set_cons_succ]
      refine wpAnyH_strong (S' := fun w' => Below w8.heap.size w8 w') (by intro w' h; exact below_on hHeld h) ?_
      replace hHeld : (fun w' => Below w8.heap.size w8 w') _ := Below.refl _ _
      refine wpAnyH_take (i := 8) (oi := { dst := some 75, op := _, type := _, pos := _, after := _, guard := _ }) (v := ?v10x11) rfl (by kernel_rfl) (by kernel_rfl) (by kernel_rfl) (fun _ _ _ h => h) (Or.inl ⟨by rfl, ?hy10x11⟩) hHeld ?rest10x11
      case hy10x11 => (intro w hSw; go_simp <;> with_reducible rfl)
      try simp only [Act.put, List.setIfInBounds_toArray, List.set_cons_zero, List.set_cons_succ]
      refine wpAnyH_take (i := 11) (oi := { dst := some 78, op := _, type := _, pos := _, after := _, guard := _ }) (v := ?v10x12) rfl (by kernel_rfl) (by kernel_rfl) (by kernel_rfl) (fun _ _ _ h => h) (Or.inl ⟨by rfl, ?hy10x12⟩) hHeld ?rest10x12
      case hy10x12 => (intro w hSw; go_simp <;> with_reducible rfl)
      try simp only [Act.put, List.setIfInBounds_toArray, List.set_cons_zero, List.set_cons_succ]
      refine wpAnyH_take (i := 12) (oi := { dst := some 79, op := _, type := _, pos := _, after := _, guard := _ }) (v := ?v10x13) rfl (by kernel_rfl) (by kernel_rfl) (by kernel_rfl) (fun _ _ _ h => h) (Or.inl ⟨by rfl, ?hy10x13⟩) hHeld ?rest10x13
      case hy10x13 => (intro w hSw; go_simp <;> with_reducible rfl)
      try simp only [Act.put, List.setIfInBounds_toArray, List.set_cons_zero, List.set_cons_succ]
      refine wpAnyH_done (by kernel_rfl) ?_ _
      clear hsE hsB hsB8 rE
      have j8 := JZ.out.keep s8
      have g8 := GZ.out.keep s8
      clear c0 c1 c2 c3 c4 c5 c6 d0 d1
      obtain ⟨j0, j1⟩ := j8.two
      obtain ⟨i0, i1⟩ := g8.two
      have jf := j8.frozen
      have J8 := hide j8
      have B8 := hide (below_on BZ.out s8)
      have R8 := hide (RZ.out.keep s8)
      clear j8 g8 hHeld
      clear s7 b7 s8 b8
      go_wp2_with fail
      (try simp only [Exit.inBlock, Exit.then])
      refine bodyPost_ret (results_cell_tmp rfl rfl (J8.out.set2 _ _) Try.underlying61 rfl (by kernel_rfl)) rfl ?_
      rw [HPz.out]
      exact ⟨C, mm, kC, rfl, lC, R8.out.set2 NCg.out _ _, below_set2 B8.out (Nat.le_succ _) _ _⟩
    · have qs : (Y != xs) = true := by simp [hY]
      have qs2 : (!(Y == xs)) = true := by simp [hY]
      have HPz := HPy.out
      rw [if_neg (fun h => hY h.2)] at HPz
      replace HPz := hide HPz
      clear HPy hY
      refine wp_region_held_drew (S := fun w' => Below Z.heap.size Z w') (by kernel_rfl) ?_ (fun hHeld => ?_)
      · exact (Below.refl _ _).drew
      refine wpAnyH_take (i := 0) (oi := { dst := some 67, op := _, type := _, pos := _, after := _, guard := _ }) (v := ?v11x1) rfl (by kernel_rfl) (by kernel_rfl) (by kernel_rfl) (fun _ _ _ h => h) (Or.inl ⟨by rfl, ?hy11x1⟩) hHeld ?rest11x1
      case hy11x1 => (intro w hSw; go_simp <;> with_reducible rfl)
      try simp only [Act.put, List.setIfInBounds_toArray, List.set_cons_zero, List.set_cons_succ]
      refine wpAnyH_take (i := 1) (oi := { dst := some 68, op := _, type := _, pos := _, after := _, guard := _ }) (v := ?v11x2) rfl (by kernel_rfl) (by kernel_rfl) (by kernel_rfl) (fun _ _ _ h => h) (Or.inl ⟨by rfl, ?hy11x2⟩) hHeld ?rest11x2
      case hy11x2 => (intro w hSw; go_simp <;> with_reducible rfl)
      try simp only [Act.put, List.setIfInBounds_toArray, List.set_cons_zero, List.set_cons_succ]
      refine wpAnyH_ready (rs := [2]) (by kernel_rfl) (by simp) (AllReadyH.cons (o := { dst := some 69, op := _, type := _, pos := _, after := _, guard := _ }) rfl (fun K hK => ?_) AllReadyH.nil)
      go_simp
      refine (HAz.out _ (RZ.out.keep hHeld)).mono ?_
      rintro e w7 ⟨rfl, b7⟩
      have s7 := below_on hHeld b7
      go_wp2_with fail
      refine hK.out _ _ ?_ (fun hHeld => ?_)
      · exact s7
      clear hK K
      try simp only [Act.put, List.setIfInBounds_toArray, List.set_cons_zero, List.set_cons_succ]
      refine wpAnyH_take (i := 3) (oi := { dst := some 70, op := _, type := _, pos := _, after := _, guard := _ }) (v := ?v11x4) rfl (by kernel_rfl) (by kernel_rfl) (by kernel_rfl) (fun _ _ _ h => h) (Or.inl ⟨by rfl, ?hy11x4⟩) hHeld ?rest11x4
      case hy11x4 => (intro w hSw; go_simp <;> with_reducible rfl)
      try simp only [Act.put, List.setIfInBounds_toArray, List.set_cons_zero, List.set_cons_succ]
      refine wpAnyH_take (i := 4) (oi := { dst := some 71, op := _, type := _, pos := _, after := _, guard := _ }) (v := ?v11x5) rfl (by kernel_rfl) (by kernel_rfl) (by kernel_rfl) (fun _ _ _ h => h) (Or.inl ⟨by rfl, ?hy11x5⟩) hHeld ?rest11x5
      case hy11x5 => (intro w hSw; go_simp <;> with_reducible rfl)
      try simp only [Act.put, List.setIfInBounds_toArray, List.set_cons_zero, List.set_cons_succ]
      refine wpAnyH_take (i := 5) (oi := { dst := some 72, op := _, type := _, pos := _, after := _, guard := _ }) (v := ?v11x6) rfl (by kernel_rfl) (by kernel_rfl) (by kernel_rfl) (fun _ _ _ h => h) (Or.inl ⟨by rfl, ?hy11x6⟩) hHeld ?rest11x6
      case hy11x6 => (intro w hSw; go_simp <;> with_reducible rfl)
      try simp only [Act.put, List.setIfInBounds_toArray, List.set_cons_zero, List.set_cons_succ]
      refine wpAnyH_take (i := 6) (oi := { dst := some 73, op := _, type := _, pos := _, after := _, guard := _ }) (v := ?v11x7) rfl (by kernel_rfl) (by kernel_rfl) (by kernel_rfl) (fun _ _ _ h => h) (Or.inl ⟨by rfl, ?hy11x7⟩) hHeld ?rest11x7
      case hy11x7 => (intro w hSw; go_simp <;> with_reducible rfl)
      try simp only [Act.put, List.setIfInBounds_toArray, List.set_cons_zero, List.set_cons_succ]
      refine wpAnyH_take (i := 9) (oi := { dst := some 76, op := _, type := _, pos := _, after := _, guard := _ }) (v := ?v11x8) rfl (by kernel_rfl) (by kernel_rfl) (by kernel_rfl) (fun _ _ _ h => h) (Or.inl ⟨by rfl, ?hy11x8⟩) hHeld ?rest11x8
      case hy11x8 => (intro w hSw; go_simp <;> with_reducible rfl)
      try simp only [Act.put, List.setIfInBounds_toArray, List.set_cons_zero, List.set_cons_succ]
      refine wpAnyH_take (i := 10) (oi := { dst := some 77, op := _, type := _, pos := _, after := _, guard := _ }) (v := ?v11x9) rfl (by kernel_rfl) (by kernel_rfl) (by kernel_rfl) (fun _ _ _ h => h) (Or.inl ⟨by rfl, ?hy11x9⟩) hHeld ?rest11x9
      case hy11x9 => (intro w hSw; go_simp <;> with_reducible rfl)
      try simp only [Act.put, List.setIfInBounds_toArray, List.set_cons_zero, List.set_cons_succ]
      refine wpAnyH_ready (rs := [7]) (by kernel_rfl) (by simp) (AllReadyH.cons (o := { dst := some 74, op := _, type := _, pos := _, after := _, guard := _ }) rfl (fun K hK => ?_) AllReadyH.nil)
      go_simp
      refine (HLz.out _ (below_on BZ.out s7) (RZ.out.keep s7)).mono ?_
      rintro e w8 ⟨E, kE, rfl, lE, rE, b8⟩
      have s8 := below_on s7 b8
      have hsE := strOn rE
      have hsB8 := strOn (H2.out.keep (below_on BZ.out s8))
      go_wp2_with fail
      refine hK.out _ _ ?_ (fun hHeld => ?_)
      · exact below_on hHeld b8
      clear hK K
      try simp only [Act.put, List.setIfInBounds_toArray, List.set_cons_zero, List.set_cons_succ]
      refine wpAnyH_strong (S' := fun w' => Below w8.heap.size w8 w') (by intro w' h; exact below_on hHeld h) ?_
      replace hHeld : (fun w' => Below w8.heap.size w8 w') _ := Below.refl _ _
      refine wpAnyH_take (i := 8) (oi := { dst := some 75, op := _, type := _, pos := _, after := _, guard := _ }) (v := ?v11x11) rfl (by kernel_rfl) (by kernel_rfl) (by kernel_rfl) (fun _ _ _ h => h) (Or.inl ⟨by rfl, ?hy11x11⟩) hHeld ?rest11x11
      case hy11x11 => (intro w hSw; go_simp <;> with_reducible rfl)
      try simp only [Act.put, List.setIfInBounds_toArray, List.set_cons_zero, List.set_cons_succ]
      refine wpAnyH_take (i := 11) (oi := { dst := some 78, op := _, type := _, pos := _, after := _, guard := _ }) (v := ?v11x12) rfl (by kernel_rfl) (by kernel_rfl) (by kernel_rfl) (fun _ _ _ h => h) (Or.inl ⟨by rfl, ?hy11x12⟩) hHeld ?rest11x12
      case hy11x12 => (intro w hSw; go_simp <;> with_reducible rfl)
      try simp only [Act.put, List.setIfInBounds_toArray, List.set_cons_zero, List.set_cons_succ]
      refine wpAnyH_take (i := 12) (oi := { dst := some 79, op := _, type := _, pos := _, after := _, guard := _ }) (v := ?v11x13) rfl (by kernel_rfl) (by kernel_rfl) (by kernel_rfl) (fun _ _ _ h => h) (Or.inl ⟨by rfl, ?hy11x13⟩) hHeld ?rest11x13
      case hy11x13 => (intro w hSw; go_simp <;> with_reducible rfl)
      try simp only [Act.put, List.setIfInBounds_toArray, List.set_cons_zero, List.set_cons_succ]
      refine wpAnyH_done (by kernel_rfl) ?_ _
      clear hsE hsB hsB8 rE
      have j8 := JZ.out.keep s8
      have g8 := GZ.out.keep s8
      clear c0 c1 c2 c3 c4 c5 c6 d0 d1
      obtain ⟨j0, j1⟩ := j8.two
      obtain ⟨i0, i1⟩ := g8.two
      have jf := j8.frozen
      have J8 := hide j8
      have B8 := hide (below_on BZ.out s8)
      have R8 := hide (RZ.out.keep s8)
      clear j8 g8 hHeld
      clear s7 b7 s8 b8
      go_wp2_with fail
      (try simp only [Exit.inBlock, Exit.then])
      refine bodyPost_ret (results_cell_tmp rfl rfl (J8.out.set2 _ _) Try.underlying61 rfl (by kernel_rfl)) rfl ?_
      rw [HPz.out]
      exact ⟨none, 0, 0, rfl, Nat.le_refl _, Rd.nil _ _, below_set2 B8.out (Nat.le_succ _) _ _⟩
set_option maxRecDepth 100000 in
set_option maxHeartbeats 1000000 in
theorem refAnsP_4 (a c t an o x : Int) (A : Option Addr) (b o' n k l d : Nat) (vs : List Int) (xs : List UInt8) (w : World) (h1 : Rd w A n (iv vs)) (h2 : Rd w (some ⟨b, o', none⟩) l (bv xs)) (hd : l ≤ d) (hl0 : 2 ≤ l) (hl6 : l ≤ 600) (x0 : w.cell? ⟨b, o', none⟩ = some (.int .u8 x)) (hx0 : 0 ≤ x) (hx1 : x ≤ 255) (hM : mayB 4 a c vs t an o = true) (hno : ¬ x = 4 + 128) (hag : ag ⟨4, a, c, vs, t, an, o⟩ xs = ⟨wordsL (xs.drop 2), 0⟩) :
    Calls Try.prog 37 #[.agg #[.int .i64 4, .int .i64 a, .int .i64 c, .slice A n k, .int .i64 t, .int .i64 an, .int .i64 o], .slice (some ⟨b, o', none⟩) l d] w (RetAnB ((ansParseL ⟨4, a, c, vs, t, an, o⟩ xs).getD An.none) (ansParseL ⟨4, a, c, vs, t, an, o⟩ xs).isSome w) := by
  have hbl : b < w.heap.size := block_lt_of_cell x0
  have q0 : (0 : Int) < (l : Int) := by omega
  have q0n : 0 < l := by omega
  have q2 : decide ((l : Int) < 2) = false := by simp; omega
  have X0 := hide x0
  have H1 := hide h1
  have H2 := hide h2
  have HM := hide hM
  have hct := may_count hM
  have hxl : xs.length = l := by rw [← bv_length]; exact h2.1
  have q : (x == 4 + 128) = false := ne_beq hno
  have HZ := hide (ansParse_eq ⟨4, a, c, vs, t, an, o⟩ xs _ _ hag)
  have hsl2 := fun W => run_slTail (P := Try.prog) 38 5 Try.underlying38 u8_size (some ⟨b, o', none⟩) l d 2 2 rfl (by omega) W
  have HU := hide (fun W (hr : Rd W (some ⟨b, o', none⟩) l (bv xs)) => (refRead_any (cutA (some ⟨b, o', none⟩) 2 d) (l - 2) (d - 2) (xs.drop 2) W (by have := hr.tail 2 d (by omega) hd; rwa [bv_drop] at this) (by omega) (by omega) ((l - 2) / 2) rfl).mono fun _ _ h => h.new)
  generalize wordsL (xs.drop 2) = us at *
  generalize hmm0 : (l - 2) / 2 = mm at *
  have hmm : mm ≤ 1000000 := by omega
  clear x0 h1 h2 hM hag hno hxl hmm0 hct
  go_enter Try.func37, Try.ntmps37
  go_wp2_with fail
  generalize hW : ((w.alloc (.cells #[.int .i64 4, .int .i64 a, .int .i64 c, .slice A n k, .int .i64 t, .int .i64 an, .int .i64 o] 37)).alloc (.cells #[.slice none 0 0, .int .i64 0] 61)).alloc (.cells #[.slice none 0 0, .int .i64 0] 61) = W
  obtain ⟨hB1, hB2, hB3, hBel, hsz⟩ := three_boxes w [.int .i64 4, .int .i64 a, .int .i64 c, .slice A n k, .int .i64 t, .int .i64 an, .int .i64 o] [.slice none 0 0, .int .i64 0] [.slice none 0 0, .int .i64 0] 37 61 61 W hW.symm
  clear hW
  have hw1 : w.heap.size < W.heap.size := by omega
  have hw2 : w.heap.size + 1 < W.heap.size := by omega
  have hw3 : w.heap.size + 2 < W.heap.size := by omega
  have x0 := (hBel.cell (p := ⟨b, o', none⟩) hbl).trans X0.out
  obtain ⟨k0, k1, k2, k3, k4, k5, k6⟩ := hB1.seven
  obtain ⟨j0, j1⟩ := hB2.two
  obtain ⟨i0, i1⟩ := hB3.two
  have jf := hB2.frozen
  have if_ := hB3.frozen
  have K := hide hB1
  have J := hide hB2
  have G := hide hB3
  have BL := hide hBel
  clear hB1 hB2 hB3 hBel hsz
  go_quiet (fail)
  have K' : Hid (Blk (W.drewN nq) w.heap.size 37 _) := K.out
  have J' : Hid (Blk (W.drewN nq) (w.heap.size + 1) 61 _) := J.out
  have G' : Hid (Blk (W.drewN nq) (w.heap.size + 2) 61 _) := G.out
  have BL' : Hid (Below w.heap.size w (W.drewN nq)) := below_drewN BL.out nq
  generalize W.drewN nq = V at *
  clear k0 k1 k2 k3 k4 k5 k6 j0 j1 i0 i1 jf if_ K J G BL x0 hw1 hw2 hw3
  clear W
  have K := K'
  have J := J'
  have G := G'
  have BL := BL'
  clear K' J' G' BL'
  have hw1 : w.heap.size < V.heap.size := K.out.lt
  have hw2 : w.heap.size + 1 < V.heap.size := J.out.lt
  have hw3 : w.heap.size + 2 < V.heap.size := G.out.lt
  obtain ⟨k0, k1, k2, k3, k4, k5, k6⟩ := K.out.seven
  obtain ⟨j0, j1⟩ := J.out.two
  obtain ⟨i0, i1⟩ := G.out.two
  have jf := J.out.frozen
  have if_ := G.out.frozen
  go_wp2_with fail
  refine (HU.out _ (H2.out.keep BL.out)).mono ?_
  rintro e U2 ⟨C, kC, rfl, lC, rC, b2, nC⟩
  clear k0 k1 k2 k3 k4 k5 k6 j0 j1 i0 i1 jf if_ hsl2
  have b2x := b2
  have nCx := nC
  have gU := G.out.keep b2x
  obtain ⟨i0, i1⟩ := gU.two
  have if_ := gU.frozen
  clear gU
  have KZ : Hid (Blk (U2.setCell ⟨w.heap.size + 2, 0, none⟩ (.slice C mm kC)) w.heap.size 37 _) := (K.out.keep b2x).oth (by omega) 0 _
  have JZ : Hid (Blk (U2.setCell ⟨w.heap.size + 2, 0, none⟩ (.slice C mm kC)) (w.heap.size + 1) 61 _) := (J.out.keep b2x).oth (by omega) 0 _
  have GZ : Hid (Blk (U2.setCell ⟨w.heap.size + 2, 0, none⟩ (.slice C mm kC)) (w.heap.size + 2) 61 [.slice C mm kC, .int .i64 0]) := (G.out.keep b2x).set 0 _
  have BZ : Hid (Below w.heap.size w (U2.setCell ⟨w.heap.size + 2, 0, none⟩ (.slice C mm kC))) := (below_on BL.out b2x).setCell (Nat.le_add_right _ 2) _
  have RZ : Hid (Rd (U2.setCell ⟨w.heap.size + 2, 0, none⟩ (.slice C mm kC)) C mm (iv us)) := rC.set1 (fun b o e => by have := nCx b o e; omega) 0 _
  have NCg : Hid (∀ b o, C = some ⟨b, o, none⟩ → b ≠ w.heap.size + 1) := fun b o e => by have := nCx b o e; omega
  clear K J G BL rC nC nCx b2 b2x
  go_wp2_with fail
  clear i0 i1 if_
  generalize U2.setCell ⟨w.heap.size + 2, 0, none⟩ (.slice C mm kC) = Z at *
  go_wp2_with fail
  have c0 := KZ.out.on 0 _ rfl
  have c1 := KZ.out.on 1 _ rfl
  have c2 := KZ.out.on 2 _ rfl
  have c3 := KZ.out.on 3 _ rfl
  have c4 := KZ.out.on 4 _ rfl
  have c5 := KZ.out.on 5 _ rfl
  have c6 := KZ.out.on 6 _ rfl
  have d0 := GZ.out.on 0 _ rfl
  have d1 := GZ.out.on 1 _ rfl
  have HAz := hide (fun W' hr => refAnsMay_any 4 a c t an o 0 A C n k mm kC us W' hr hmm)
  cases hbA : ansMayB 4 c 0 us
  · rw [hbA] at HAz
    have HPz := hide (show ansParseL ⟨4, a, c, vs, t, an, o⟩ xs = none from by rw [HZ.out, hbA, if_neg (by simp)])
    clear hbA
    refine wp_region_held_drew (S := fun w' => Below Z.heap.size Z w') (by kernel_rfl) ?_ (fun hHeld => ?_)
    · exact (Below.refl _ _).drew
    refine wpAnyH_take (i := 0) (oi := { dst := some 67, op := _, type := _, pos := _, after := _, guard := _ }) (v := ?v12x1) rfl (by kernel_rfl) (by kernel_rfl) (by kernel_rfl) (fun _ _ _ h => h) (Or.inl ⟨by rfl, ?hy12x1⟩) hHeld ?rest12x1
    case hy12x1 => (intro w hSw; go_simp <;> with_reducible rfl)
    try simp only [Act.put, List.setIfInBounds_toArray, List.set_cons_zero, List.set_cons_succ]
    refine wpAnyH_take (i := 1) (oi := { dst := some 68, op := _, type := _, pos := _, after := _, guard := _ }) (v := ?v12x2) rfl (by kernel_rfl) (by kernel_rfl) (by kernel_rfl) (fun _ _ _ h => h) (Or.inl ⟨by rfl, ?hy12x2⟩) hHeld ?rest12x2
    case hy12x2 => (intro w hSw; go_simp <;> with_reducible rfl)
    try simp only [Act.put, List.setIfInBounds_toArray, List.set_cons_zero, List.set_cons_succ]
    refine wpAnyH_ready (rs := [2]) (by kernel_rfl) (by simp) (AllReadyH.cons (o := { dst := some 69, op := _, type := _, pos := _, after := _, guard := _ }) rfl (fun K hK => ?_) AllReadyH.nil)
    go_simp
    refine (HAz.out _ (RZ.out.keep hHeld)).mono ?_
    rintro e w7 ⟨rfl, b7⟩
    have s7 := below_on hHeld b7
    go_wp2_with fail
    refine hK.out _ _ ?_ (fun hHeld => ?_)
    · exact s7
    clear hK K
    try simp only [Act.put, List.setIfInBounds_toArray, List.set_cons_zero, List.set_cons_succ]
    refine wpAnyH_take (i := 3) (oi := { dst := some 70, op := _, type := _, pos := _, after := _, guard := _ }) (v := ?v12x4) rfl (by kernel_rfl) (by kernel_rfl) (by kernel_rfl) (fun _ _ _ h => h) (Or.inl ⟨by rfl, ?hy12x4⟩) hHeld ?rest12x4
    case hy12x4 => (intro w hSw; go_simp <;> with_reducible rfl)
    try simp only [Act.put, List.setIfInBounds_toArray, List.set_cons_zero, List.set_cons_succ]
    refine wpAnyH_take (i := 4) (oi := { dst := some 71, op := _, type := _, pos := _, after := _, guard := _ }) (v := ?v12x5) rfl (by kernel_rfl) (by kernel_rfl) (by kernel_rfl) (fun _ _ _ h => h) (Or.inl ⟨by rfl, ?hy12x5⟩) hHeld ?rest12x5
    case hy12x5 => (intro w hSw; go_simp <;> with_reducible rfl)
    try simp only [Act.put, List.setIfInBounds_toArray, List.set_cons_zero, List.set_cons_succ]
    refine wpAnyH_take (i := 5) (oi := { dst := some 72, op := _, type := _, pos := _, after := _, guard := _ }) (v := undef) rfl (by kernel_rfl) (by kernel_rfl) (by kernel_rfl) (fun _ _ _ h => h) (Or.inr ⟨by rfl, rfl⟩) hHeld ?_
    try simp only [Act.put, List.setIfInBounds_toArray, List.set_cons_zero, List.set_cons_succ]
    refine wpAnyH_take (i := 6) (oi := { dst := some 73, op := _, type := _, pos := _, after := _, guard := _ }) (v := undef) rfl (by kernel_rfl) (by kernel_rfl) (by kernel_rfl) (fun _ _ _ h => h) (Or.inr ⟨by rfl, rfl⟩) hHeld ?_
    try simp only [Act.put, List.setIfInBounds_toArray, List.set_cons_zero, List.set_cons_succ]
    refine wpAnyH_take (i := 7) (oi := { dst := some 74, op := _, type := _, pos := _, after := _, guard := _ }) (v := undef) rfl (by kernel_rfl) (by kernel_rfl) (by kernel_rfl) (fun _ _ _ h => h) (Or.inr ⟨by rfl, rfl⟩) hHeld ?_
    try simp only [Act.put, List.setIfInBounds_toArray, List.set_cons_zero, List.set_cons_succ]
    refine wpAnyH_take (i := 8) (oi := { dst := some 75, op := _, type := _, pos := _, after := _, guard := _ }) (v := undef) rfl (by kernel_rfl) (by kernel_rfl) (by kernel_rfl) (fun _ _ _ h => h) (Or.inr ⟨by rfl, rfl⟩) hHeld ?_
    try simp only [Act.put, List.setIfInBounds_toArray, List.set_cons_zero, List.set_cons_succ]
    refine wpAnyH_take (i := 9) (oi := { dst := some 76, op := _, type := _, pos := _, after := _, guard := _ }) (v := undef) rfl (by kernel_rfl) (by kernel_rfl) (by kernel_rfl) (fun _ _ _ h => h) (Or.inr ⟨by rfl, rfl⟩) hHeld ?_
    try simp only [Act.put, List.setIfInBounds_toArray, List.set_cons_zero, List.set_cons_succ]
    refine wpAnyH_take (i := 10) (oi := { dst := some 77, op := _, type := _, pos := _, after := _, guard := _ }) (v := undef) rfl (by kernel_rfl) (by kernel_rfl) (by kernel_rfl) (fun _ _ _ h => h) (Or.inr ⟨by rfl, rfl⟩) hHeld ?_
    try simp only [Act.put, List.setIfInBounds_toArray, List.set_cons_zero, List.set_cons_succ]
    refine wpAnyH_take (i := 11) (oi := { dst := some 78, op := _, type := _, pos := _, after := _, guard := _ }) (v := undef) rfl (by kernel_rfl) (by kernel_rfl) (by kernel_rfl) (fun _ _ _ h => h) (Or.inr ⟨by rfl, rfl⟩) hHeld ?_
    try simp only [Act.put, List.setIfInBounds_toArray, List.set_cons_zero, List.set_cons_succ]
    refine wpAnyH_take (i := 12) (oi := { dst := some 79, op := _, type := _, pos := _, after := _, guard := _ }) (v := ?v12x13) rfl (by kernel_rfl) (by kernel_rfl) (by kernel_rfl) (fun _ _ _ h => h) (Or.inl ⟨by rfl, ?hy12x13⟩) hHeld ?rest12x13
    case hy12x13 => (intro w hSw; go_simp <;> with_reducible rfl)
    try simp only [Act.put, List.setIfInBounds_toArray, List.set_cons_zero, List.set_cons_succ]
    refine wpAnyH_done (by kernel_rfl) ?_ _
    have j8 := JZ.out.keep s7
    have g8 := GZ.out.keep s7
    clear c0 c1 c2 c3 c4 c5 c6 d0 d1
    obtain ⟨j0, j1⟩ := j8.two
    obtain ⟨i0, i1⟩ := g8.two
    have jf := j8.frozen
    have J8 := hide j8
    have B8 := hide (below_on BZ.out s7)
    have R8 := hide (RZ.out.keep s7)
    clear j8 g8 hHeld
    clear s7 b7
    go_wp2_with fail
    (try simp only [Exit.inBlock, Exit.then])
    refine bodyPost_ret (results_cell_tmp rfl rfl (J8.out.set2 _ _) Try.underlying61 rfl (by kernel_rfl)) rfl ?_
    rw [HPz.out]
    exact ⟨none, 0, 0, rfl, Nat.le_refl _, Rd.nil _ _, below_set2 B8.out (Nat.le_succ _) _ _⟩
  · have HLz := hide (fun W' (hb : Below w.heap.size w W') hr => refAns_any 4 a c t an o 0 A C n k mm kC vs us W' (H1.out.keep hb) hr HM.out hbA)
    rw [hbA] at HAz
    have HPy := hide (show ansParseL ⟨4, a, c, vs, t, an, o⟩ xs = _ from by rw [HZ.out, hbA])
    clear hbA
    generalize ansL 4 a c vs t an o 0 us = Y at *
    have hsB := strOn (H2.out.keep BZ.out)
    by_cases hY : Y = xs
    · have qs : (Y != xs) = false := by simp [hY]
      have qs2 : (!(Y == xs)) = false := by simp [hY]
      have HPz := HPy.out
      rw [if_pos ⟨rfl, hY⟩] at HPz
      replace HPz := hide HPz
      clear HPy hY
      refine wp_region_held_drew (S := fun w' => Below Z.heap.size Z w') (by kernel_rfl) ?_ (fun hHeld => ?_)
      · exact (Below.refl _ _).drew
      refine wpAnyH_take (i := 0) (oi := { dst := some 67, op := _, type := _, pos := _, after := _, guard := _ }) (v := ?v13x1) rfl (by kernel_rfl) (by kernel_rfl) (by kernel_rfl) (fun _ _ _ h => h) (Or.inl ⟨by rfl, ?hy13x1⟩) hHeld ?rest13x1
      case hy13x1 => (intro w hSw; go_simp <;> with_reducible rfl)
      try simp only [Act.put, List.setIfInBounds_toArray, List.set_cons_zero, List.set_cons_succ]
      refine wpAnyH_take (i := 1) (oi := { dst := some 68, op := _, type := _, pos := _, after := _, guard := _ }) (v := ?v13x2) rfl (by kernel_rfl) (by kernel_rfl) (by kernel_rfl) (fun _ _ _ h => h) (Or.inl ⟨by rfl, ?hy13x2⟩) hHeld ?rest13x2
      case hy13x2 => (intro w hSw; go_simp <;> with_reducible rfl)
      try simp only [Act.put, List.setIfInBounds_toArray, List.set_cons_zero, List.set_cons_succ]
      refine wpAnyH_ready (rs := [2]) (by kernel_rfl) (by simp) (AllReadyH.cons (o := { dst := some 69, op := _, type := _, pos := _, after := _, guard := _ }) rfl (fun K hK => ?_) AllReadyH.nil)
      go_simp
      refine (HAz.out _ (RZ.out.keep hHeld)).mono ?_
      rintro e w7 ⟨rfl, b7⟩
      have s7 := below_on hHeld b7
      go_wp2_with fail
      refine hK.out _ _ ?_ (fun hHeld => ?_)
      · exact s7
      clear hK K
      try simp only [Act.put, List.setIfInBounds_toArray, List.set_cons_zero, List.set_cons_succ]
      refine wpAnyH_take (i := 3) (oi := { dst := some 70, op := _, type := _, pos := _, after := _, guard := _ }) (v := ?v13x4) rfl (by kernel_rfl) (by kernel_rfl) (by kernel_rfl) (fun _ _ _ h => h) (Or.inl ⟨by rfl, ?hy13x4⟩) hHeld ?rest13x4
      case hy13x4 => (intro w hSw; go_simp <;> with_reducible rfl)
      try simp only [Act.put, List.setIfInBounds_toArray, List.set_cons_zero, List.set_cons_succ]
      refine wpAnyH_take (i := 4) (oi := { dst := some 71, op := _, type := _, pos := _, after := _, guard := _ }) (v := ?v13x5) rfl (by kernel_rfl) (by kernel_rfl) (by kernel_rfl) (fun _ _ _ h => h) (Or.inl ⟨by rfl, ?hy13x5⟩) hHeld ?rest13x5
      case hy13x5 => (intro w hSw; go_simp <;> with_reducible rfl)
      try simp only [Act.put, List.setIfInBounds_toArray, List.set_cons_zero, List.set_cons_succ]
      refine wpAnyH_take (i := 5) (oi := { dst := some 72, op := _, type := _, pos := _, after := _, guard := _ }) (v := ?v13x6) rfl (by kernel_rfl) (by kernel_rfl) (by kernel_rfl) (fun _ _ _ h => h) (Or.inl ⟨by rfl, ?hy13x6⟩) hHeld ?rest13x6
      case hy13x6 => (intro w hSw; go_simp <;> with_reducible rfl)
      try simp only [Act.put, List.setIfInBounds_toArray, List.set_cons_zero, List.set_cons_succ]
      refine wpAnyH_take (i := 6) (oi := { dst := some 73, op := _, type := _, pos := _, after := _, guard := _ }) (v := ?v13x7) rfl (by kernel_rfl) (by kernel_rfl) (by kernel_rfl) (fun _ _ _ h => h) (Or.inl ⟨by rfl, ?hy13x7⟩) hHeld ?rest13x7
      case hy13x7 => (intro w hSw; go_simp <;> with_reducible rfl)
      try simp only [Act.put, List.setIfInBounds_toArray, List.set_cons_zero, List.set_cons_succ]
      refine wpAnyH_take (i := 9) (oi := { dst := some 76, op := _, type := _, pos := _, after := _, guard := _ }) (v := ?v13x8) rfl (by kernel_rfl) (by kernel_rfl) (by kernel_rfl) (fun _ _ _ h => h) (Or.inl ⟨by rfl, ?hy13x8⟩) hHeld ?rest13x8
      case hy13x8 => (intro w hSw; go_simp <;> with_reducible rfl)
      try simp only [Act.put, List.setIfInBounds_toArray, List.set_cons_zero, List.set_cons_succ]
      refine wpAnyH_take (i := 10) (oi := { dst := some 77, op := _, type := _, pos := _, after := _, guard := _ }) (v := ?v13x9) rfl (by kernel_rfl) (by kernel_rfl) (by kernel_rfl) (fun _ _ _ h => h) (Or.inl ⟨by rfl, ?hy13x9⟩) hHeld ?rest13x9
      case hy13x9 => (intro w hSw; go_simp <;> with_reducible rfl)
      try simp only [Act.put, List.setIfInBounds_toArray, List.set_cons_zero, List.set_cons_succ]
      refine wpAnyH_ready (rs := [7]) (by kernel_rfl) (by simp) (AllReadyH.cons (o := { dst := some 74, op := _, type := _, pos := _, after := _, guard := _ }) rfl (fun K hK => ?_) AllReadyH.nil)
      go_simp
      refine (HLz.out _ (below_on BZ.out s7) (RZ.out.keep s7)).mono ?_
      rintro e w8 ⟨E, kE, rfl, lE, rE, b8⟩
      have s8 := below_on s7 b8
      have hsE := strOn rE
      have hsB8 := strOn (H2.out.keep (below_on BZ.out s8))
      go_wp2_with fail
      refine hK.out _ _ ?_ (fun hHeld => ?_)
      · exact below_on hHeld b8
      clear hK K
      try simp only [Act.put, List.setIfInBounds_toArray, List.set_cons_zero, List.set_cons_succ]
      refine wpAnyH_strong (S' := fun w' => Below w8.heap.size w8 w') (by intro w' h; exact below_on hHeld h) ?_
      replace hHeld : (fun w' => Below w8.heap.size w8 w') _ := Below.refl _ _
      refine wpAnyH_take (i := 8) (oi := { dst := some 75, op := _, type := _, pos := _, after := _, guard := _ }) (v := ?v13x11) rfl (by kernel_rfl) (by kernel_rfl) (by kernel_rfl) (fun _ _ _ h => h) (Or.inl ⟨by rfl, ?hy13x11⟩) hHeld ?rest13x11
      case hy13x11 => (intro w hSw; go_simp <;> with_reducible rfl)
      try simp only [Act.put, List.setIfInBounds_toArray, List.set_cons_zero, List.set_cons_succ]
      refine wpAnyH_take (i := 11) (oi := { dst := some 78, op := _, type := _, pos := _, after := _, guard := _ }) (v := ?v13x12) rfl (by kernel_rfl) (by kernel_rfl) (by kernel_rfl) (fun _ _ _ h => h) (Or.inl ⟨by rfl, ?hy13x12⟩) hHeld ?rest13x12
      case hy13x12 => (intro w hSw; go_simp <;> with_reducible rfl)
      try simp only [Act.put, List.setIfInBounds_toArray, List.set_cons_zero, List.set_cons_succ]
      refine wpAnyH_take (i := 12) (oi := { dst := some 79, op := _, type := _, pos := _, after := _, guard := _ }) (v := ?v13x13) rfl (by kernel_rfl) (by kernel_rfl) (by kernel_rfl) (fun _ _ _ h => h) (Or.inl ⟨by rfl, ?hy13x13⟩) hHeld ?rest13x13
      case hy13x13 => (intro w hSw; go_simp <;> with_reducible rfl)
      try simp only [Act.put, List.setIfInBounds_toArray, List.set_cons_zero, List.set_cons_succ]
      refine wpAnyH_done (by kernel_rfl) ?_ _
      clear hsE hsB hsB8 rE
      have j8 := JZ.out.keep s8
      have g8 := GZ.out.keep s8
      clear c0 c1 c2 c3 c4 c5 c6 d0 d1
      obtain ⟨j0, j1⟩ := j8.two
      obtain ⟨i0, i1⟩ := g8.two
      have jf := j8.frozen
      have J8 := hide j8
      have B8 := hide (below_on BZ.out s8)
      have R8 := hide (RZ.out.keep s8)
      clear j8 g8 hHeld
      clear s7 b7 s8 b8
      go_wp2_with fail
      (try simp only [Exit.inBlock, Exit.then])
      refine bodyPost_ret (results_cell_tmp rfl rfl (J8.out.set2 _ _) Try.underlying61 rfl (by kernel_rfl)) rfl ?_
      rw [HPz.out]
      exact ⟨C, mm, kC, rfl, lC, R8.out.set2 NCg.out _ _, below_set2 B8.out (Nat.le_succ _) _ _⟩
    · have qs : (Y != xs) = true := by simp [hY]
      have qs2 : (!(Y == xs)) = true := by simp [hY]
      have HPz := HPy.out
      rw [if_neg (fun h => hY h.2)] at HPz
      replace HPz := hide HPz
      clear HPy hY
      refine wp_region_held_drew (S := fun w' => Below Z.heap.size Z w') (by kernel_rfl) ?_ (fun hHeld => ?_)
      · exact (Below.refl _ _).drew
      refine wpAnyH_take (i := 0) (oi := { dst := some 67, op := _, type := _, pos := _, after := _, guard := _ }) (v := ?v14x1) rfl (by kernel_rfl) (by kernel_rfl) (by kernel_rfl) (fun _ _ _ h => h) (Or.inl ⟨by rfl, ?hy14x1⟩) hHeld ?rest14x1
      case hy14x1 => (intro w hSw; go_simp <;> with_reducible rfl)
      try simp only [Act.put, List.setIfInBounds_toArray, List.set_cons_zero, List.set_cons_succ]
      refine wpAnyH_take (i := 1) (oi := { dst := some 68, op := _, type := _, pos := _, after := _, guard := _ }) (v := ?v14x2) rfl (by kernel_rfl) (by kernel_rfl) (by kernel_rfl) (fun _ _ _ h => h) (Or.inl ⟨by rfl, ?hy14x2⟩) hHeld ?rest14x2
      case hy14x2 => (intro w hSw; go_simp <;> with_reducible rfl)
      try simp only [Act.put, List.setIfInBounds_toArray, List.set_cons_zero, List.set_cons_succ]
      refine wpAnyH_ready (rs := [2]) (by kernel_rfl) (by simp) (AllReadyH.cons (o := { dst := some 69, op := _, type := _, pos := _, after := _, guard := _ }) rfl (fun K hK => ?_) AllReadyH.nil)
      go_simp
      refine (HAz.out _ (RZ.out.keep hHeld)).mono ?_
      rintro e w7 ⟨rfl, b7⟩
      have s7 := below_on hHeld b7
      go_wp2_with fail
      refine hK.out _ _ ?_ (fun hHeld => ?_)
      · exact s7
      clear hK K
      try simp only [Act.put, List.setIfInBounds_toArray, List.set_cons_zero, List.set_cons_succ]
      refine wpAnyH_take (i := 3) (oi := { dst := some 70, op := _, type := _, pos := _, after := _, guard := _ }) (v := ?v14x4) rfl (by kernel_rfl) (by kernel_rfl) (by kernel_rfl) (fun _ _ _ h => h) (Or.inl ⟨by rfl, ?hy14x4⟩) hHeld ?rest14x4
      case hy14x4 => (intro w hSw; go_simp <;> with_reducible rfl)
      try simp only [Act.put, List.setIfInBounds_toArray, List.set_cons_zero, List.set_cons_succ]
      refine wpAnyH_take (i := 4) (oi := { dst := some 71, op := _, type := _, pos := _, after := _, guard := _ }) (v := ?v14x5) rfl (by kernel_rfl) (by kernel_rfl) (by kernel_rfl) (fun _ _ _ h => h) (Or.inl ⟨by rfl, ?hy14x5⟩) hHeld ?rest14x5
      case hy14x5 => (intro w hSw; go_simp <;> with_reducible rfl)
      try simp only [Act.put, List.setIfInBounds_toArray, List.set_cons_zero, List.set_cons_succ]
      refine wpAnyH_take (i := 5) (oi := { dst := some 72, op := _, type := _, pos := _, after := _, guard := _ }) (v := ?v14x6) rfl (by kernel_rfl) (by kernel_rfl) (by kernel_rfl) (fun _ _ _ h => h) (Or.inl ⟨by rfl, ?hy14x6⟩) hHeld ?rest14x6
      case hy14x6 => (intro w hSw; go_simp <;> with_reducible rfl)
      try simp only [Act.put, List.setIfInBounds_toArray, List.set_cons_zero, List.set_cons_succ]
      refine wpAnyH_take (i := 6) (oi := { dst := some 73, op := _, type := _, pos := _, after := _, guard := _ }) (v := ?v14x7) rfl (by kernel_rfl) (by kernel_rfl) (by kernel_rfl) (fun _ _ _ h => h) (Or.inl ⟨by rfl, ?hy14x7⟩) hHeld ?rest14x7
      case hy14x7 => (intro w hSw; go_simp <;> with_reducible rfl)
      try simp only [Act.put, List.setIfInBounds_toArray, List.set_cons_zero, List.set_cons_succ]
      refine wpAnyH_take (i := 9) (oi := { dst := some 76, op := _, type := _, pos := _, after := _, guard := _ }) (v := ?v14x8) rfl (by kernel_rfl) (by kernel_rfl) (by kernel_rfl) (fun _ _ _ h => h) (Or.inl ⟨by rfl, ?hy14x8⟩) hHeld ?rest14x8
      case hy14x8 => (intro w hSw; go_simp <;> with_reducible rfl)
      try simp only [Act.put, List.setIfInBounds_toArray, List.set_cons_zero, List.set_cons_succ]
      refine wpAnyH_take (i := 10) (oi := { dst := some 77, op := _, type := _, pos := _, after := _, guard := _ }) (v := ?v14x9) rfl (by kernel_rfl) (by kernel_rfl) (by kernel_rfl) (fun _ _ _ h => h) (Or.inl ⟨by rfl, ?hy14x9⟩) hHeld ?rest14x9
      case hy14x9 => (intro w hSw; go_simp <;> with_reducible rfl)
      try simp only [Act.put, List.setIfInBounds_toArray, List.set_cons_zero, List.set_cons_succ]
      refine wpAnyH_ready (rs := [7]) (by kernel_rfl) (by simp) (AllReadyH.cons (o := { dst := some 74, op := _, type := _, pos := _, after := _, guard := _ }) rfl (fun K hK => ?_) AllReadyH.nil)
      go_simp
      refine (HLz.out _ (below_on BZ.out s7) (RZ.out.keep s7)).mono ?_
      rintro e w8 ⟨E, kE, rfl, lE, rE, b8⟩
      have s8 := below_on s7 b8
      have hsE := strOn rE
      have hsB8 := strOn (H2.out.keep (below_on BZ.out s8))
      go_wp2_with fail
      refine hK.out _ _ ?_ (fun hHeld => ?_)
      · exact below_on hHeld b8
      clear hK K
      try simp only [Act.put, List.setIfInBounds_toArray, List.set_cons_zero, List.set_cons_succ]
      refine wpAnyH_strong (S' := fun w' => Below w8.heap.size w8 w') (by intro w' h; exact below_on hHeld h) ?_
      replace hHeld : (fun w' => Below w8.heap.size w8 w') _ := Below.refl _ _
      refine wpAnyH_take (i := 8) (oi := { dst := some 75, op := _, type := _, pos := _, after := _, guard := _ }) (v := ?v14x11) rfl (by kernel_rfl) (by kernel_rfl) (by kernel_rfl) (fun _ _ _ h => h) (Or.inl ⟨by rfl, ?hy14x11⟩) hHeld ?rest14x11
      case hy14x11 => (intro w hSw; go_simp <;> with_reducible rfl)
      try simp only [Act.put, List.setIfInBounds_toArray, List.set_cons_zero, List.set_cons_succ]
      refine wpAnyH_take (i := 11) (oi := { dst := some 78, op := _, type := _, pos := _, after := _, guard := _ }) (v := ?v14x12) rfl (by kernel_rfl) (by kernel_rfl) (by kernel_rfl) (fun _ _ _ h => h) (Or.inl ⟨by rfl, ?hy14x12⟩) hHeld ?rest14x12
      case hy14x12 => (intro w hSw; go_simp <;> with_reducible rfl)
      try simp only [Act.put, List.setIfInBounds_toArray, List.set_cons_zero, List.set_cons_succ]
      refine wpAnyH_take (i := 12) (oi := { dst := some 79, op := _, type := _, pos := _, after := _, guard := _ }) (v := ?v14x13) rfl (by kernel_rfl) (by kernel_rfl) (by kernel_rfl) (fun _ _ _ h => h) (Or.inl ⟨by rfl, ?hy14x13⟩) hHeld ?rest14x13
      case hy14x13 => (intro w hSw; go_simp <;> with_reducible rfl)
      try simp only [Act.put, List.setIfInBounds_toArray, List.set_cons_zero, List.set_cons_succ]
      refine wpAnyH_done (by kernel_rfl) ?_ _
      clear hsE hsB hsB8 rE
      have j8 := JZ.out.keep s8
      have g8 := GZ.out.keep s8
      clear c0 c1 c2 c3 c4 c5 c6 d0 d1
      obtain ⟨j0, j1⟩ := j8.two
      obtain ⟨i0, i1⟩ := g8.two
      have jf := j8.frozen
      have J8 := hide j8
      have B8 := hide (below_on BZ.out s8)
      have R8 := hide (RZ.out.keep s8)
      clear j8 g8 hHeld
      clear s7 b7 s8 b8
      go_wp2_with fail
      (try simp only [Exit.inBlock, Exit.then])
      refine bodyPost_ret (results_cell_tmp rfl rfl (J8.out.set2 _ _) Try.underlying61 rfl (by kernel_rfl)) rfl ?_
      rw [HPz.out]
      exact ⟨none, 0, 0, rfl, Nat.le_refl _, Rd.nil _ _, below_set2 B8.out (Nat.le_succ _) _ _⟩
set_option maxRecDepth 100000 in
set_option maxHeartbeats 1000000 in
theorem refAnsP_23 (a c t an o x : Int) (A : Option Addr) (b o' n k l d : Nat) (vs : List Int) (xs : List UInt8) (w : World) (h1 : Rd w A n (iv vs)) (h2 : Rd w (some ⟨b, o', none⟩) l (bv xs)) (hd : l ≤ d) (hl0 : 2 ≤ l) (hl6 : l ≤ 600) (x0 : w.cell? ⟨b, o', none⟩ = some (.int .u8 x)) (hx0 : 0 ≤ x) (hx1 : x ≤ 255) (hM : mayB 23 a c vs t an o = true) (hno : ¬ x = 23 + 128) (hag : ag ⟨23, a, c, vs, t, an, o⟩ xs = ⟨wordsL (xs.drop 2), 0⟩) :
    Calls Try.prog 37 #[.agg #[.int .i64 23, .int .i64 a, .int .i64 c, .slice A n k, .int .i64 t, .int .i64 an, .int .i64 o], .slice (some ⟨b, o', none⟩) l d] w (RetAnB ((ansParseL ⟨23, a, c, vs, t, an, o⟩ xs).getD An.none) (ansParseL ⟨23, a, c, vs, t, an, o⟩ xs).isSome w) := by
  have hbl : b < w.heap.size := block_lt_of_cell x0
  have q0 : (0 : Int) < (l : Int) := by omega
  have q0n : 0 < l := by omega
  have q2 : decide ((l : Int) < 2) = false := by simp; omega
  have X0 := hide x0
  have H1 := hide h1
  have H2 := hide h2
  have HM := hide hM
  have hct := may_count hM
  have hxl : xs.length = l := by rw [← bv_length]; exact h2.1
  have q : (x == 23 + 128) = false := ne_beq hno
  have HZ := hide (ansParse_eq ⟨23, a, c, vs, t, an, o⟩ xs _ _ hag)
  have hsl2 := fun W => run_slTail (P := Try.prog) 38 5 Try.underlying38 u8_size (some ⟨b, o', none⟩) l d 2 2 rfl (by omega) W
  have HU := hide (fun W (hr : Rd W (some ⟨b, o', none⟩) l (bv xs)) => (refRead_any (cutA (some ⟨b, o', none⟩) 2 d) (l - 2) (d - 2) (xs.drop 2) W (by have := hr.tail 2 d (by omega) hd; rwa [bv_drop] at this) (by omega) (by omega) ((l - 2) / 2) rfl).mono fun _ _ h => h.new)
  generalize wordsL (xs.drop 2) = us at *
  generalize hmm0 : (l - 2) / 2 = mm at *
  have hmm : mm ≤ 1000000 := by omega
  clear x0 h1 h2 hM hag hno hxl hmm0 hct
  go_enter Try.func37, Try.ntmps37
  go_wp2_with fail
  generalize hW : ((w.alloc (.cells #[.int .i64 23, .int .i64 a, .int .i64 c, .slice A n k, .int .i64 t, .int .i64 an, .int .i64 o] 37)).alloc (.cells #[.slice none 0 0, .int .i64 0] 61)).alloc (.cells #[.slice none 0 0, .int .i64 0] 61) = W
  obtain ⟨hB1, hB2, hB3, hBel, hsz⟩ := three_boxes w [.int .i64 23, .int .i64 a, .int .i64 c, .slice A n k, .int .i64 t, .int .i64 an, .int .i64 o] [.slice none 0 0, .int .i64 0] [.slice none 0 0, .int .i64 0] 37 61 61 W hW.symm
  clear hW
  have hw1 : w.heap.size < W.heap.size := by omega
  have hw2 : w.heap.size + 1 < W.heap.size := by omega
  have hw3 : w.heap.size + 2 < W.heap.size := by omega
  have x0 := (hBel.cell (p := ⟨b, o', none⟩) hbl).trans X0.out
  obtain ⟨k0, k1, k2, k3, k4, k5, k6⟩ := hB1.seven
  obtain ⟨j0, j1⟩ := hB2.two
  obtain ⟨i0, i1⟩ := hB3.two
  have jf := hB2.frozen
  have if_ := hB3.frozen
  have K := hide hB1
  have J := hide hB2
  have G := hide hB3
  have BL := hide hBel
  clear hB1 hB2 hB3 hBel hsz
  go_quiet (fail)
  have K' : Hid (Blk (W.drewN nq) w.heap.size 37 _) := K.out
  have J' : Hid (Blk (W.drewN nq) (w.heap.size + 1) 61 _) := J.out
  have G' : Hid (Blk (W.drewN nq) (w.heap.size + 2) 61 _) := G.out
  have BL' : Hid (Below w.heap.size w (W.drewN nq)) := below_drewN BL.out nq
  generalize W.drewN nq = V at *
  clear k0 k1 k2 k3 k4 k5 k6 j0 j1 i0 i1 jf if_ K J G BL x0 hw1 hw2 hw3
  clear W
  have K := K'
  have J := J'
  have G := G'
  have BL := BL'
  clear K' J' G' BL'
  have hw1 : w.heap.size < V.heap.size := K.out.lt
  have hw2 : w.heap.size + 1 < V.heap.size := J.out.lt
  have hw3 : w.heap.size + 2 < V.heap.size := G.out.lt
  obtain ⟨k0, k1, k2, k3, k4, k5, k6⟩ := K.out.seven
  obtain ⟨j0, j1⟩ := J.out.two
  obtain ⟨i0, i1⟩ := G.out.two
  have jf := J.out.frozen
  have if_ := G.out.frozen
  go_wp2_with fail
  refine (HU.out _ (H2.out.keep BL.out)).mono ?_
  rintro e U2 ⟨C, kC, rfl, lC, rC, b2, nC⟩
  clear k0 k1 k2 k3 k4 k5 k6 j0 j1 i0 i1 jf if_ hsl2
  have b2x := b2
  have nCx := nC
  have gU := G.out.keep b2x
  obtain ⟨i0, i1⟩ := gU.two
  have if_ := gU.frozen
  clear gU
  have KZ : Hid (Blk (U2.setCell ⟨w.heap.size + 2, 0, none⟩ (.slice C mm kC)) w.heap.size 37 _) := (K.out.keep b2x).oth (by omega) 0 _
  have JZ : Hid (Blk (U2.setCell ⟨w.heap.size + 2, 0, none⟩ (.slice C mm kC)) (w.heap.size + 1) 61 _) := (J.out.keep b2x).oth (by omega) 0 _
  have GZ : Hid (Blk (U2.setCell ⟨w.heap.size + 2, 0, none⟩ (.slice C mm kC)) (w.heap.size + 2) 61 [.slice C mm kC, .int .i64 0]) := (G.out.keep b2x).set 0 _
  have BZ : Hid (Below w.heap.size w (U2.setCell ⟨w.heap.size + 2, 0, none⟩ (.slice C mm kC))) := (below_on BL.out b2x).setCell (Nat.le_add_right _ 2) _
  have RZ : Hid (Rd (U2.setCell ⟨w.heap.size + 2, 0, none⟩ (.slice C mm kC)) C mm (iv us)) := rC.set1 (fun b o e => by have := nCx b o e; omega) 0 _
  have NCg : Hid (∀ b o, C = some ⟨b, o, none⟩ → b ≠ w.heap.size + 1) := fun b o e => by have := nCx b o e; omega
  clear K J G BL rC nC nCx b2 b2x
  go_wp2_with fail
  clear i0 i1 if_
  generalize U2.setCell ⟨w.heap.size + 2, 0, none⟩ (.slice C mm kC) = Z at *
  go_wp2_with fail
  have c0 := KZ.out.on 0 _ rfl
  have c1 := KZ.out.on 1 _ rfl
  have c2 := KZ.out.on 2 _ rfl
  have c3 := KZ.out.on 3 _ rfl
  have c4 := KZ.out.on 4 _ rfl
  have c5 := KZ.out.on 5 _ rfl
  have c6 := KZ.out.on 6 _ rfl
  have d0 := GZ.out.on 0 _ rfl
  have d1 := GZ.out.on 1 _ rfl
  have HAz := hide (fun W' hr => refAnsMay_any 23 a c t an o 0 A C n k mm kC us W' hr hmm)
  cases hbA : ansMayB 23 c 0 us
  · rw [hbA] at HAz
    have HPz := hide (show ansParseL ⟨23, a, c, vs, t, an, o⟩ xs = none from by rw [HZ.out, hbA, if_neg (by simp)])
    clear hbA
    refine wp_region_held_drew (S := fun w' => Below Z.heap.size Z w') (by kernel_rfl) ?_ (fun hHeld => ?_)
    · exact (Below.refl _ _).drew
    refine wpAnyH_take (i := 0) (oi := { dst := some 67, op := _, type := _, pos := _, after := _, guard := _ }) (v := ?v15x1) rfl (by kernel_rfl) (by kernel_rfl) (by kernel_rfl) (fun _ _ _ h => h) (Or.inl ⟨by rfl, ?hy15x1⟩) hHeld ?rest15x1
    case hy15x1 => (intro w hSw; go_simp <;> with_reducible rfl)
    try simp only [Act.put, List.setIfInBounds_toArray, List.set_cons_zero, List.set_cons_succ]
    refine wpAnyH_take (i := 1) (oi := { dst := some 68, op := _, type := _, pos := _, after := _, guard := _ }) (v := ?v15x2) rfl (by kernel_rfl) (by kernel_rfl) (by kernel_rfl) (fun _ _ _ h => h) (Or.inl ⟨by rfl, ?hy15x2⟩) hHeld ?rest15x2
    case hy15x2 => (intro w hSw; go_simp <;> with_reducible rfl)
    try simp only [Act.put, List.setIfInBounds_toArray, List.set_cons_zero, List.set_cons_succ]
    refine wpAnyH_ready (rs := [2]) (by kernel_rfl) (by simp) (AllReadyH.cons (o := { dst := some 69, op := _, type := _, pos := _, after := _, guard := _ }) rfl (fun K hK => ?_) AllReadyH.nil)
    go_simp
    refine (HAz.out _ (RZ.out.keep hHeld)).mono ?_
    rintro e w7 ⟨rfl, b7⟩
    have s7 := below_on hHeld b7
    go_wp2_with fail
    refine hK.out _ _ ?_ (fun hHeld => ?_)
    · exact s7
    clear hK K
    try simp only [Act.put, List.setIfInBounds_toArray, List.set_cons_zero, List.set_cons_succ]
    refine wpAnyH_take (i := 3) (oi := { dst := some 70, op := _, type := _, pos := _, after := _, guard := _ }) (v := ?v15x4) rfl (by kernel_rfl) (by kernel_rfl) (by kernel_rfl) (fun _ _ _ h => h) (Or.inl ⟨by rfl, ?hy15x4⟩) hHeld ?rest15x4
    case hy15x4 => (intro w hSw; go_simp <;> with_reducible rfl)
    try simp only [Act.put, List.setIfInBounds_toArray, List.set_cons_zero, List.set_cons_succ]
    refine wpAnyH_take (i := 4) (oi := { dst := some 71, op := _, type := _, pos := _, after := _, guard := _ }) (v := ?v15x5) rfl (by kernel_rfl) (by kernel_rfl) (by kernel_rfl) (fun _ _ _ h => h) (Or.inl ⟨by rfl, ?hy15x5⟩) hHeld ?rest15x5
    case hy15x5 => (intro w hSw; go_simp <;> with_reducible rfl)
    try simp only [Act.put, List.setIfInBounds_toArray, List.set_cons_zero, List.set_cons_succ]
    refine wpAnyH_take (i := 5) (oi := { dst := some 72, op := _, type := _, pos := _, after := _, guard := _ }) (v := undef) rfl (by kernel_rfl) (by kernel_rfl) (by kernel_rfl) (fun _ _ _ h => h) (Or.inr ⟨by rfl, rfl⟩) hHeld ?_
    try simp only [Act.put, List.setIfInBounds_toArray, List.set_cons_zero, List.set_cons_succ]
    refine wpAnyH_take (i := 6) (oi := { dst := some 73, op := _, type := _, pos := _, after := _, guard := _ }) (v := undef) rfl (by kernel_rfl) (by kernel_rfl) (by kernel_rfl) (fun _ _ _ h => h) (Or.inr ⟨by rfl, rfl⟩) hHeld ?_
    try simp only [Act.put, List.setIfInBounds_toArray, List.set_cons_zero, List.set_cons_succ]
    refine wpAnyH_take (i := 7) (oi := { dst := some 74, op := _, type := _, pos := _, after := _, guard := _ }) (v := undef) rfl (by kernel_rfl) (by kernel_rfl) (by kernel_rfl) (fun _ _ _ h => h) (Or.inr ⟨by rfl, rfl⟩) hHeld ?_
    try simp only [Act.put, List.setIfInBounds_toArray, List.set_cons_zero, List.set_cons_succ]
    refine wpAnyH_take (i := 8) (oi := { dst := some 75, op := _, type := _, pos := _, after := _, guard := _ }) (v := undef) rfl (by kernel_rfl) (by kernel_rfl) (by kernel_rfl) (fun _ _ _ h => h) (Or.inr ⟨by rfl, rfl⟩) hHeld ?_
    try simp only [Act.put, List.setIfInBounds_toArray, List.set_cons_zero, List.set_cons_succ]
    refine wpAnyH_take (i := 9) (oi := { dst := some 76, op := _, type := _, pos := _, after := _, guard := _ }) (v := undef) rfl (by kernel_rfl) (by kernel_rfl) (by kernel_rfl) (fun _ _ _ h => h) (Or.inr ⟨by rfl, rfl⟩) hHeld ?_
    try simp only [Act.put, List.setIfInBounds_toArray, List.set_cons_zero, List.set_cons_succ]
    refine wpAnyH_take (i := 10) (oi := { dst := some 77, op := _, type := _, pos := _, after := _, guard := _ }) (v := undef) rfl (by kernel_rfl) (by kernel_rfl) (by kernel_rfl) (fun _ _ _ h => h) (Or.inr ⟨by rfl, rfl⟩) hHeld ?_
    try simp only [Act.put, List.setIfInBounds_toArray, List.set_cons_zero, List.set_cons_succ]
    refine wpAnyH_take (i := 11) (oi := { dst := some 78, op := _, type := _, pos := _, after := _, guard := _ }) (v := undef) rfl (by kernel_rfl) (by kernel_rfl) (by kernel_rfl) (fun _ _ _ h => h) (Or.inr ⟨by rfl, rfl⟩) hHeld ?_
    try simp only [Act.put, List.setIfInBounds_toArray, List.set_cons_zero, List.set_cons_succ]
    refine wpAnyH_take (i := 12) (oi := { dst := some 79, op := _, type := _, pos := _, after := _, guard := _ }) (v := ?v15x13) rfl (by kernel_rfl) (by kernel_rfl) (by kernel_rfl) (fun _ _ _ h => h) (Or.inl ⟨by rfl, ?hy15x13⟩) hHeld ?rest15x13
    case hy15x13 => (intro w hSw; go_simp <;> with_reducible rfl)
    try simp only [Act.put, List.setIfInBounds_toArray, List.set_cons_zero, List.set_cons_succ]
    refine wpAnyH_done (by kernel_rfl) ?_ _
    have j8 := JZ.out.keep s7
    have g8 := GZ.out.keep s7
    clear c0 c1 c2 c3 c4 c5 c6 d0 d1
    obtain ⟨j0, j1⟩ := j8.two
    obtain ⟨i0, i1⟩ := g8.two
    have jf := j8.frozen
    have J8 := hide j8
    have B8 := hide (below_on BZ.out s7)
    have R8 := hide (RZ.out.keep s7)
    clear j8 g8 hHeld
    clear s7 b7
    go_wp2_with fail
    (try simp only [Exit.inBlock, Exit.then])
    refine bodyPost_ret (results_cell_tmp rfl rfl (J8.out.set2 _ _) Try.underlying61 rfl (by kernel_rfl)) rfl ?_
    rw [HPz.out]
    exact ⟨none, 0, 0, rfl, Nat.le_refl _, Rd.nil _ _, below_set2 B8.out (Nat.le_succ _) _ _⟩
  · have HLz := hide (fun W' (hb : Below w.heap.size w W') hr => refAns_any 23 a c t an o 0 A C n k mm kC vs us W' (H1.out.keep hb) hr HM.out hbA)
    rw [hbA] at HAz
    have HPy := hide (show ansParseL ⟨23, a, c, vs, t, an, o⟩ xs = _ from by rw [HZ.out, hbA])
    clear hbA
    generalize ansL 23 a c vs t an o 0 us = Y at *
    have hsB := strOn (H2.out.keep BZ.out)
    by_cases hY : Y = xs
    · have qs : (Y != xs) = false := by simp [hY]
      have qs2 : (!(Y == xs)) = false := by simp [hY]
      have HPz := HPy.out
      rw [if_pos ⟨rfl, hY⟩] at HPz
      replace HPz := hide HPz
      clear HPy hY
      refine wp_region_held_drew (S := fun w' => Below Z.heap.size Z w') (by kernel_rfl) ?_ (fun hHeld => ?_)
      · exact (Below.refl _ _).drew
      refine wpAnyH_take (i := 0) (oi := { dst := some 67, op := _, type := _, pos := _, after := _, guard := _ }) (v := ?v16x1) rfl (by kernel_rfl) (by kernel_rfl) (by kernel_rfl) (fun _ _ _ h => h) (Or.inl ⟨by rfl, ?hy16x1⟩) hHeld ?rest16x1
      case hy16x1 => (intro w hSw; go_simp <;> with_reducible rfl)
      try simp only [Act.put, List.setIfInBounds_toArray, List.set_cons_zero, List.set_cons_succ]
      refine wpAnyH_take (i := 1) (oi := { dst := some 68, op := _, type := _, pos := _, after := _, guard := _ }) (v := ?v16x2) rfl (by kernel_rfl) (by kernel_rfl) (by kernel_rfl) (fun _ _ _ h => h) (Or.inl ⟨by rfl, ?hy16x2⟩) hHeld ?rest16x2
      case hy16x2 => (intro w hSw; go_simp <;> with_reducible rfl)
      try simp only [Act.put, List.setIfInBounds_toArray, List.set_cons_zero, List.set_cons_succ]
      refine wpAnyH_ready (rs := [2]) (by kernel_rfl) (by simp) (AllReadyH.cons (o := { dst := some 69, op := _, type := _, pos := _, after := _, guard := _ }) rfl (fun K hK => ?_) AllReadyH.nil)
      go_simp
      refine (HAz.out _ (RZ.out.keep hHeld)).mono ?_
      rintro e w7 ⟨rfl, b7⟩
      have s7 := below_on hHeld b7
      go_wp2_with fail
      refine hK.out _ _ ?_ (fun hHeld => ?_)
      · exact s7
      clear hK K
      try simp only [Act.put, List.setIfInBounds_toArray, List.set_cons_zero, List.set_cons_succ]
      refine wpAnyH_take (i := 3) (oi := { dst := some 70, op := _, type := _, pos := _, after := _, guard := _ }) (v := ?v16x4) rfl (by kernel_rfl) (by kernel_rfl) (by kernel_rfl) (fun _ _ _ h => h) (Or.inl ⟨by rfl, ?hy16x4⟩) hHeld ?rest16x4
      case hy16x4 => (intro w hSw; go_simp <;> with_reducible rfl)
      try simp only [Act.put, List.setIfInBounds_toArray, List.set_cons_zero, List.set_cons_succ]
      refine wpAnyH_take (i := 4) (oi := { dst := some 71, op := _, type := _, pos := _, after := _, guard := _ }) (v := ?v16x5) rfl (by kernel_rfl) (by kernel_rfl) (by kernel_rfl) (fun _ _ _ h => h) (Or.inl ⟨by rfl, ?hy16x5⟩) hHeld ?rest16x5
      case hy16x5 => (intro w hSw; go_simp <;> with_reducible rfl)
      try simp only [Act.put, List.setIfInBounds_toArray, List.set_cons_zero, List.set_cons_succ]
      refine wpAnyH_take (i := 5) (oi := { dst := some 72, op := _, type := _, pos := _, after := _, guard := _ }) (v := ?v16x6) rfl (by kernel_rfl) (by kernel_rfl) (by kernel_rfl) (fun _ _ _ h => h) (Or.inl ⟨by rfl, ?hy16x6⟩) hHeld ?rest16x6
      case hy16x6 => (intro w hSw; go_simp <;> with_reducible rfl)
      try simp only [Act.put, List.setIfInBounds_toArray, List.set_cons_zero, List.set_cons_succ]
      refine wpAnyH_take (i := 6) (oi := { dst := some 73, op := _, type := _, pos := _, after := _, guard := _ }) (v := ?v16x7) rfl (by kernel_rfl) (by kernel_rfl) (by kernel_rfl) (fun _ _ _ h => h) (Or.inl ⟨by rfl, ?hy16x7⟩) hHeld ?rest16x7
      case hy16x7 => (intro w hSw; go_simp <;> with_reducible rfl)
      try simp only [Act.put, List.setIfInBounds_toArray, List.set_cons_zero, List.set_cons_succ]
      refine wpAnyH_take (i := 9) (oi := { dst := some 76, op := _, type := _, pos := _, after := _, guard := _ }) (v := ?v16x8) rfl (by kernel_rfl) (by kernel_rfl) (by kernel_rfl) (fun _ _ _ h => h) (Or.inl ⟨by rfl, ?hy16x8⟩) hHeld ?rest16x8
      case hy16x8 => (intro w hSw; go_simp <;> with_reducible rfl)
      try simp only [Act.put, List.setIfInBounds_toArray, List.set_cons_zero, List.set_cons_succ]
      refine wpAnyH_take (i := 10) (oi := { dst := some 77, op := _, type := _, pos := _, after := _, guard := _ }) (v := ?v16x9) rfl (by kernel_rfl) (by kernel_rfl) (by kernel_rfl) (fun _ _ _ h => h) (Or.inl ⟨by rfl, ?hy16x9⟩) hHeld ?rest16x9
      case hy16x9 => (intro w hSw; go_simp <;> with_reducible rfl)
      try simp only [Act.put, List.setIfInBounds_toArray, List.set_cons_zero, List.set_cons_succ]
      refine wpAnyH_ready (rs := [7]) (by kernel_rfl) (by simp) (AllReadyH.cons (o := { dst := some 74, op := _, type := _, pos := _, after := _, guard := _ }) rfl (fun K hK => ?_) AllReadyH.nil)
      go_simp
      refine (HLz.out _ (below_on BZ.out s7) (RZ.out.keep s7)).mono ?_
      rintro e w8 ⟨E, kE, rfl, lE, rE, b8⟩
      have s8 := below_on s7 b8
      have hsE := strOn rE
      have hsB8 := strOn (H2.out.keep (below_on BZ.out s8))
      go_wp2_with fail
      refine hK.out _ _ ?_ (fun hHeld => ?_)
      · exact below_on hHeld b8
      clear hK K
      try simp only [Act.put, List.setIfInBounds_toArray, List.set_cons_zero, List.set_cons_succ]
      refine wpAnyH_strong (S' := fun w' => Below w8.heap.size w8 w') (by intro w' h; exact below_on hHeld h) ?_
      replace hHeld : (fun w' => Below w8.heap.size w8 w') _ := Below.refl _ _
      refine wpAnyH_take (i := 8) (oi := { dst := some 75, op := _, type := _, pos := _, after := _, guard := _ }) (v := ?v16x11) rfl (by kernel_rfl) (by kernel_rfl) (by kernel_rfl) (fun _ _ _ h => h) (Or.inl ⟨by rfl, ?hy16x11⟩) hHeld ?rest16x11
      case hy16x11 => (intro w hSw; go_simp <;> with_reducible rfl)
      try simp only [Act.put, List.setIfInBounds_toArray, List.set_cons_zero, List.set_cons_succ]
      refine wpAnyH_take (i := 11) (oi := { dst := some 78, op := _, type := _, pos := _, after := _, guard := _ }) (v := ?v16x12) rfl (by kernel_rfl) (by kernel_rfl) (by kernel_rfl) (fun _ _ _ h => h) (Or.inl ⟨by rfl, ?hy16x12⟩) hHeld ?rest16x12
      case hy16x12 => (intro w hSw; go_simp <;> with_reducible rfl)
      try simp only [Act.put, List.setIfInBounds_toArray, List.set_cons_zero, List.set_cons_succ]
      refine wpAnyH_take (i := 12) (oi := { dst := some 79, op := _, type := _, pos := _, after := _, guard := _ }) (v := ?v16x13) rfl (by kernel_rfl) (by kernel_rfl) (by kernel_rfl) (fun _ _ _ h => h) (Or.inl ⟨by rfl, ?hy16x13⟩) hHeld ?rest16x13
      case hy16x13 => (intro w hSw; go_simp <;> with_reducible rfl)
      try simp only [Act.put, List.setIfInBounds_toArray, List.set_cons_zero, List.set_cons_succ]
      refine wpAnyH_done (by kernel_rfl) ?_ _
      clear hsE hsB hsB8 rE
      have j8 := JZ.out.keep s8
      have g8 := GZ.out.keep s8
      clear c0 c1 c2 c3 c4 c5 c6 d0 d1
      obtain ⟨j0, j1⟩ := j8.two
      obtain ⟨i0, i1⟩ := g8.two
      have jf := j8.frozen
      have J8 := hide j8
      have B8 := hide (below_on BZ.out s8)
      have R8 := hide (RZ.out.keep s8)
      clear j8 g8 hHeld
      clear s7 b7 s8 b8
      go_wp2_with fail
      (try simp only [Exit.inBlock, Exit.then])
      refine bodyPost_ret (results_cell_tmp rfl rfl (J8.out.set2 _ _) Try.underlying61 rfl (by kernel_rfl)) rfl ?_
      rw [HPz.out]
      exact ⟨C, mm, kC, rfl, lC, R8.out.set2 NCg.out _ _, below_set2 B8.out (Nat.le_succ _) _ _⟩
    · have qs : (Y != xs) = true := by simp [hY]
      have qs2 : (!(Y == xs)) = true := by simp [hY]
      have HPz := HPy.out
      rw [if_neg (fun h => hY h.2)] at HPz
      replace HPz := hide HPz
      clear HPy hY
      refine wp_region_held_drew (S := fun w' => Below Z.heap.size Z w') (by kernel_rfl) ?_ (fun hHeld => ?_)
      · exact (Below.refl _ _).drew
      refine wpAnyH_take (i := 0) (oi := { dst := some 67, op := _, type := _, pos := _, after := _, guard := _ }) (v := ?v17x1) rfl (by kernel_rfl) (by kernel_rfl) (by kernel_rfl) (fun _ _ _ h => h) (Or.inl ⟨by rfl, ?hy17x1⟩) hHeld ?rest17x1
      case hy17x1 => (intro w hSw; go_simp <;> with_reducible rfl)
      try simp only [Act.put, List.setIfInBounds_toArray, List.set_cons_zero, List.set_cons_succ]
      refine wpAnyH_take (i := 1) (oi := { dst := some 68, op := _, type := _, pos := _, after := _, guard := _ }) (v := ?v17x2) rfl (by kernel_rfl) (by kernel_rfl) (by kernel_rfl) (fun _ _ _ h => h) (Or.inl ⟨by rfl, ?hy17x2⟩) hHeld ?rest17x2
      case hy17x2 => (intro w hSw; go_simp <;> with_reducible rfl)
      try simp only [Act.put, List.setIfInBounds_toArray, List.set_cons_zero, List.set_cons_succ]
      refine wpAnyH_ready (rs := [2]) (by kernel_rfl) (by simp) (AllReadyH.cons (o := { dst := some 69, op := _, type := _, pos := _, after := _, guard := _ }) rfl (fun K hK => ?_) AllReadyH.nil)
      go_simp
      refine (HAz.out _ (RZ.out.keep hHeld)).mono ?_
      rintro e w7 ⟨rfl, b7⟩
      have s7 := below_on hHeld b7
      go_wp2_with fail
      refine hK.out _ _ ?_ (fun hHeld => ?_)
      · exact s7
      clear hK K
      try simp only [Act.put, List.setIfInBounds_toArray, List.set_cons_zero, List.set_cons_succ]
      refine wpAnyH_take (i := 3) (oi := { dst := some 70, op := _, type := _, pos := _, after := _, guard := _ }) (v := ?v17x4) rfl (by kernel_rfl) (by kernel_rfl) (by kernel_rfl) (fun _ _ _ h => h) (Or.inl ⟨by rfl, ?hy17x4⟩) hHeld ?rest17x4
      case hy17x4 => (intro w hSw; go_simp <;> with_reducible rfl)
      try simp only [Act.put, List.setIfInBounds_toArray, List.set_cons_zero, List.set_cons_succ]
      refine wpAnyH_take (i := 4) (oi := { dst := some 71, op := _, type := _, pos := _, after := _, guard := _ }) (v := ?v17x5) rfl (by kernel_rfl) (by kernel_rfl) (by kernel_rfl) (fun _ _ _ h => h) (Or.inl ⟨by rfl, ?hy17x5⟩) hHeld ?rest17x5
      case hy17x5 => (intro w hSw; go_simp <;> with_reducible rfl)
      try simp only [Act.put, List.setIfInBounds_toArray, List.set_cons_zero, List.set_cons_succ]
      refine wpAnyH_take (i := 5) (oi := { dst := some 72, op := _, type := _, pos := _, after := _, guard := _ }) (v := ?v17x6) rfl (by kernel_rfl) (by kernel_rfl) (by kernel_rfl) (fun _ _ _ h => h) (Or.inl ⟨by rfl, ?hy17x6⟩) hHeld ?rest17x6
      case hy17x6 => (intro w hSw; go_simp <;> with_reducible rfl)
      try simp only [Act.put, List.setIfInBounds_toArray, List.set_cons_zero, List.set_cons_succ]
      refine wpAnyH_take (i := 6) (oi := { dst := some 73, op := _, type := _, pos := _, after := _, guard := _ }) (v := ?v17x7) rfl (by kernel_rfl) (by kernel_rfl) (by kernel_rfl) (fun _ _ _ h => h) (Or.inl ⟨by rfl, ?hy17x7⟩) hHeld ?rest17x7
      case hy17x7 => (intro w hSw; go_simp <;> with_reducible rfl)
      try simp only [Act.put, List.setIfInBounds_toArray, List.set_cons_zero, List.set_cons_succ]
      refine wpAnyH_take (i := 9) (oi := { dst := some 76, op := _, type := _, pos := _, after := _, guard := _ }) (v := ?v17x8) rfl (by kernel_rfl) (by kernel_rfl) (by kernel_rfl) (fun _ _ _ h => h) (Or.inl ⟨by rfl, ?hy17x8⟩) hHeld ?rest17x8
      case hy17x8 => (intro w hSw; go_simp <;> with_reducible rfl)
      try simp only [Act.put, List.setIfInBounds_toArray, List.set_cons_zero, List.set_cons_succ]
      refine wpAnyH_take (i := 10) (oi := { dst := some 77, op := _, type := _, pos := _, after := _, guard := _ }) (v := ?v17x9) rfl (by kernel_rfl) (by kernel_rfl) (by kernel_rfl) (fun _ _ _ h => h) (Or.inl ⟨by rfl, ?hy17x9⟩) hHeld ?rest17x9
      case hy17x9 => (intro w hSw; go_simp <;> with_reducible rfl)
      try simp only [Act.put, List.setIfInBounds_toArray, List.set_cons_zero, List.set_cons_succ]
      refine wpAnyH_ready (rs := [7]) (by kernel_rfl) (by simp) (AllReadyH.cons (o := { dst := some 74, op := _, type := _, pos := _, after := _, guard := _ }) rfl (fun K hK => ?_) AllReadyH.nil)
      go_simp
      refine (HLz.out _ (below_on BZ.out s7) (RZ.out.keep s7)).mono ?_
      rintro e w8 ⟨E, kE, rfl, lE, rE, b8⟩
      have s8 := below_on s7 b8
      have hsE := strOn rE
      have hsB8 := strOn (H2.out.keep (below_on BZ.out s8))
      go_wp2_with fail
      refine hK.out _ _ ?_ (fun hHeld => ?_)
      · exact below_on hHeld b8
      clear hK K
      try simp only [Act.put, List.setIfInBounds_toArray, List.set_cons_zero, List.set_cons_succ]
      refine wpAnyH_strong (S' := fun w' => Below w8.heap.size w8 w') (by intro w' h; exact below_on hHeld h) ?_
      replace hHeld : (fun w' => Below w8.heap.size w8 w') _ := Below.refl _ _
      refine wpAnyH_take (i := 8) (oi := { dst := some 75, op := _, type := _, pos := _, after := _, guard := _ }) (v := ?v17x11) rfl (by kernel_rfl) (by kernel_rfl) (by kernel_rfl) (fun _ _ _ h => h) (Or.inl ⟨by rfl, ?hy17x11⟩) hHeld ?rest17x11
      case hy17x11 => (intro w hSw; go_simp <;> with_reducible rfl)
      try simp only [Act.put, List.setIfInBounds_toArray, List.set_cons_zero, List.set_cons_succ]
      refine wpAnyH_take (i := 11) (oi := { dst := some 78, op := _, type := _, pos := _, after := _, guard := _ }) (v := ?v17x12) rfl (by kernel_rfl) (by kernel_rfl) (by kernel_rfl) (fun _ _ _ h => h) (Or.inl ⟨by rfl, ?hy17x12⟩) hHeld ?rest17x12
      case hy17x12 => (intro w hSw; go_simp <;> with_reducible rfl)
      try simp only [Act.put, List.setIfInBounds_toArray, List.set_cons_zero, List.set_cons_succ]
      refine wpAnyH_take (i := 12) (oi := { dst := some 79, op := _, type := _, pos := _, after := _, guard := _ }) (v := ?v17x13) rfl (by kernel_rfl) (by kernel_rfl) (by kernel_rfl) (fun _ _ _ h => h) (Or.inl ⟨by rfl, ?hy17x13⟩) hHeld ?rest17x13
      case hy17x13 => (intro w hSw; go_simp <;> with_reducible rfl)
      try simp only [Act.put, List.setIfInBounds_toArray, List.set_cons_zero, List.set_cons_succ]
      refine wpAnyH_done (by kernel_rfl) ?_ _
      clear hsE hsB hsB8 rE
      have j8 := JZ.out.keep s8
      have g8 := GZ.out.keep s8
      clear c0 c1 c2 c3 c4 c5 c6 d0 d1
      obtain ⟨j0, j1⟩ := j8.two
      obtain ⟨i0, i1⟩ := g8.two
      have jf := j8.frozen
      have J8 := hide j8
      have B8 := hide (below_on BZ.out s8)
      have R8 := hide (RZ.out.keep s8)
      clear j8 g8 hHeld
      clear s7 b7 s8 b8
      go_wp2_with fail
      (try simp only [Exit.inBlock, Exit.then])
      refine bodyPost_ret (results_cell_tmp rfl rfl (J8.out.set2 _ _) Try.underlying61 rfl (by kernel_rfl)) rfl ?_
      rw [HPz.out]
      exact ⟨none, 0, 0, rfl, Nat.le_refl _, Rd.nil _ _, below_set2 B8.out (Nat.le_succ _) _ _⟩

set_option maxRecDepth 100000 in
set_option maxHeartbeats 1000000 in
theorem refAnsP_else (f a c t an o x : Int) (A : Option Addr) (b o' n k l d : Nat) (vs : List Int) (xs : List UInt8) (w : World) (h1 : Rd w A n (iv vs)) (h2 : Rd w (some ⟨b, o', none⟩) l (bv xs)) (hd : l ≤ d) (hl0 : 2 ≤ l) (hl6 : l ≤ 600) (x0 : w.cell? ⟨b, o', none⟩ = some (.int .u8 x)) (hx0 : 0 ≤ x) (hx1 : x ≤ 255) (hM : mayB f a c vs t an o = true) (hno : ¬ x = f + 128) (hag : ag ⟨f, a, c, vs, t, an, o⟩ xs = An.none) (f1 : (f == 1) = false) (f2 : (f == 2) = false) (f3 : (f == 3) = false) (f4 : (f == 4) = false) (f23 : (f == 23) = false) :
    Calls Try.prog 37 #[.agg #[.int .i64 f, .int .i64 a, .int .i64 c, .slice A n k, .int .i64 t, .int .i64 an, .int .i64 o], .slice (some ⟨b, o', none⟩) l d] w (RetAnB ((ansParseL ⟨f, a, c, vs, t, an, o⟩ xs).getD An.none) (ansParseL ⟨f, a, c, vs, t, an, o⟩ xs).isSome w) := by
  have hbl : b < w.heap.size := block_lt_of_cell x0
  have q0 : (0 : Int) < (l : Int) := by omega
  have q0n : 0 < l := by omega
  have q2 : decide ((l : Int) < 2) = false := by simp; omega
  have X0 := hide x0
  have H1 := hide h1
  have H2 := hide h2
  have HM := hide hM
  have hct := may_count hM
  have hxl : xs.length = l := by rw [← bv_length]; exact h2.1
  have q : (x == f + 128) = false := ne_beq hno
  have hf := may_func hM
  have HZ := hide (ansParse_eq ⟨f, a, c, vs, t, an, o⟩ xs [] 0 hag)
  have hfb : 1 ≤ f ∧ f ≤ 23 := by omega
  obtain ⟨hf1, hf2⟩ := hfb
  clear x0 h1 h2 hM hag hno hxl hf hct
  go_enter Try.func37, Try.ntmps37
  go_wp2_with fail
  generalize hW : ((w.alloc (.cells #[.int .i64 f, .int .i64 a, .int .i64 c, .slice A n k, .int .i64 t, .int .i64 an, .int .i64 o] 37)).alloc (.cells #[.slice none 0 0, .int .i64 0] 61)).alloc (.cells #[.slice none 0 0, .int .i64 0] 61) = W
  obtain ⟨hB1, hB2, hB3, hBel, hsz⟩ := three_boxes w [.int .i64 f, .int .i64 a, .int .i64 c, .slice A n k, .int .i64 t, .int .i64 an, .int .i64 o] [.slice none 0 0, .int .i64 0] [.slice none 0 0, .int .i64 0] 37 61 61 W hW.symm
  clear hW
  have hw1 : w.heap.size < W.heap.size := by omega
  have hw2 : w.heap.size + 1 < W.heap.size := by omega
  have hw3 : w.heap.size + 2 < W.heap.size := by omega
  have x0 := (hBel.cell (p := ⟨b, o', none⟩) hbl).trans X0.out
  obtain ⟨k0, k1, k2, k3, k4, k5, k6⟩ := hB1.seven
  obtain ⟨j0, j1⟩ := hB2.two
  obtain ⟨i0, i1⟩ := hB3.two
  have jf := hB2.frozen
  have if_ := hB3.frozen
  have K := hide hB1
  have J := hide hB2
  have G := hide hB3
  have BL := hide hBel
  clear hB1 hB2 hB3 hBel hsz
  go_quiet (fail)
  have K' : Hid (Blk (W.drewN nq) w.heap.size 37 _) := K.out
  have J' : Hid (Blk (W.drewN nq) (w.heap.size + 1) 61 _) := J.out
  have G' : Hid (Blk (W.drewN nq) (w.heap.size + 2) 61 _) := G.out
  have BL' : Hid (Below w.heap.size w (W.drewN nq)) := below_drewN BL.out nq
  generalize W.drewN nq = V at *
  clear k0 k1 k2 k3 k4 k5 k6 j0 j1 i0 i1 jf if_ K J G BL x0 hw1 hw2 hw3
  clear W
  have K := K'
  have J := J'
  have G := G'
  have BL := BL'
  clear K' J' G' BL'
  have hw1 : w.heap.size < V.heap.size := K.out.lt
  have hw2 : w.heap.size + 1 < V.heap.size := J.out.lt
  have hw3 : w.heap.size + 2 < V.heap.size := G.out.lt
  obtain ⟨k0, k1, k2, k3, k4, k5, k6⟩ := K.out.seven
  obtain ⟨j0, j1⟩ := J.out.two
  obtain ⟨i0, i1⟩ := G.out.two
  have jf := J.out.frozen
  have if_ := G.out.frozen
  have KZ := K
  have JZ := J
  have GZ := G
  have BZ := BL
  have hmm : 0 ≤ 1000000 := by omega
  have NCg : Hid (∀ b o, (none : Option Addr) = some ⟨b, o, none⟩ → b ≠ w.heap.size + 1) := fun b o e => by cases e
  go_wp2_with fail
  clear k0 k1 k2 k3 k4 k5 k6 j0 j1 i0 i1 jf if_ K J G BL
  generalize hVZ : V = Z at *
  have RZ : Hid (Rd Z none 0 (iv [])) := Rd.nil _ _
  go_wp2_with fail
  have c0 := KZ.out.on 0 _ rfl
  have c1 := KZ.out.on 1 _ rfl
  have c2 := KZ.out.on 2 _ rfl
  have c3 := KZ.out.on 3 _ rfl
  have c4 := KZ.out.on 4 _ rfl
  have c5 := KZ.out.on 5 _ rfl
  have c6 := KZ.out.on 6 _ rfl
  have d0 := GZ.out.on 0 _ rfl
  have d1 := GZ.out.on 1 _ rfl
  have HAz := hide (fun W' hr => refAnsMay_any f a c t an o 0 A none n k 0 0 [] W' hr hmm)
  cases hbA : ansMayB f c 0 []
  · rw [hbA] at HAz
    have HPz := hide (show ansParseL ⟨f, a, c, vs, t, an, o⟩ xs = none from by rw [HZ.out, hbA, if_neg (by simp)])
    clear hbA
    refine wp_region_held_drew (S := fun w' => Below Z.heap.size Z w') (by kernel_rfl) ?_ (fun hHeld => ?_)
    · exact (Below.refl _ _).drew
    refine wpAnyH_take (i := 0) (oi := { dst := some 67, op := _, type := _, pos := _, after := _, guard := _ }) (v := ?v18x1) rfl (by kernel_rfl) (by kernel_rfl) (by kernel_rfl) (fun _ _ _ h => h) (Or.inl ⟨by rfl, ?hy18x1⟩) hHeld ?rest18x1
    case hy18x1 => (intro w hSw; go_simp <;> with_reducible rfl)
    try simp only [Act.put, List.setIfInBounds_toArray, List.set_cons_zero, List.set_cons_succ]
    refine wpAnyH_take (i := 1) (oi := { dst := some 68, op := _, type := _, pos := _, after := _, guard := _ }) (v := ?v18x2) rfl (by kernel_rfl) (by kernel_rfl) (by kernel_rfl) (fun _ _ _ h => h) (Or.inl ⟨by rfl, ?hy18x2⟩) hHeld ?rest18x2
    case hy18x2 => (intro w hSw; go_simp <;> with_reducible rfl)
    try simp only [Act.put, List.setIfInBounds_toArray, List.set_cons_zero, List.set_cons_succ]
    refine wpAnyH_ready (rs := [2]) (by kernel_rfl) (by simp) (AllReadyH.cons (o := { dst := some 69, op := _, type := _, pos := _, after := _, guard := _ }) rfl (fun K hK => ?_) AllReadyH.nil)
    go_simp
    refine (HAz.out _ (RZ.out.keep hHeld)).mono ?_
    rintro e w7 ⟨rfl, b7⟩
    have s7 := below_on hHeld b7
    go_wp2_with fail
    refine hK.out _ _ ?_ (fun hHeld => ?_)
    · exact s7
    clear hK K
    try simp only [Act.put, List.setIfInBounds_toArray, List.set_cons_zero, List.set_cons_succ]
    refine wpAnyH_take (i := 3) (oi := { dst := some 70, op := _, type := _, pos := _, after := _, guard := _ }) (v := ?v18x4) rfl (by kernel_rfl) (by kernel_rfl) (by kernel_rfl) (fun _ _ _ h => h) (Or.inl ⟨by rfl, ?hy18x4⟩) hHeld ?rest18x4
    case hy18x4 => (intro w hSw; go_simp <;> with_reducible rfl)
    try simp only [Act.put, List.setIfInBounds_toArray, List.set_cons_zero, List.set_cons_succ]
    refine wpAnyH_take (i := 4) (oi := { dst := some 71, op := _, type := _, pos := _, after := _, guard := _ }) (v := ?v18x5) rfl (by kernel_rfl) (by kernel_rfl) (by kernel_rfl) (fun _ _ _ h => h) (Or.inl ⟨by rfl, ?hy18x5⟩) hHeld ?rest18x5
    case hy18x5 => (intro w hSw; go_simp <;> with_reducible rfl)
    try simp only [Act.put, List.setIfInBounds_toArray, List.set_cons_zero, List.set_cons_succ]
    refine wpAnyH_take (i := 5) (oi := { dst := some 72, op := _, type := _, pos := _, after := _, guard := _ }) (v := undef) rfl (by kernel_rfl) (by kernel_rfl) (by kernel_rfl) (fun _ _ _ h => h) (Or.inr ⟨by rfl, rfl⟩) hHeld ?_
    try simp only [Act.put, List.setIfInBounds_toArray, List.set_cons_zero, List.set_cons_succ]
    refine wpAnyH_take (i := 6) (oi := { dst := some 73, op := _, type := _, pos := _, after := _, guard := _ }) (v := undef) rfl (by kernel_rfl) (by kernel_rfl) (by kernel_rfl) (fun _ _ _ h => h) (Or.inr ⟨by rfl, rfl⟩) hHeld ?_
    try simp only [Act.put, List.setIfInBounds_toArray, List.set_cons_zero, List.set_cons_succ]
    refine wpAnyH_take (i := 7) (oi := { dst := some 74, op := _, type := _, pos := _, after := _, guard := _ }) (v := undef) rfl (by kernel_rfl) (by kernel_rfl) (by kernel_rfl) (fun _ _ _ h => h) (Or.inr ⟨by rfl, rfl⟩) hHeld ?_
    try simp only [Act.put, List.setIfInBounds_toArray, List.set_cons_zero, List.set_cons_succ]
    refine wpAnyH_take (i := 8) (oi := { dst := some 75, op := _, type := _, pos := _, after := _, guard := _ }) (v := undef) rfl (by kernel_rfl) (by kernel_rfl) (by kernel_rfl) (fun _ _ _ h => h) (Or.inr ⟨by rfl, rfl⟩) hHeld ?_
    try simp only [Act.put, List.setIfInBounds_toArray, List.set_cons_zero, List.set_cons_succ]
    refine wpAnyH_take (i := 9) (oi := { dst := some 76, op := _, type := _, pos := _, after := _, guard := _ }) (v := undef) rfl (by kernel_rfl) (by kernel_rfl) (by kernel_rfl) (fun _ _ _ h => h) (Or.inr ⟨by rfl, rfl⟩) hHeld ?_
    try simp only [Act.put, List.setIfInBounds_toArray, List.set_cons_zero, List.set_cons_succ]
    refine wpAnyH_take (i := 10) (oi := { dst := some 77, op := _, type := _, pos := _, after := _, guard := _ }) (v := undef) rfl (by kernel_rfl) (by kernel_rfl) (by kernel_rfl) (fun _ _ _ h => h) (Or.inr ⟨by rfl, rfl⟩) hHeld ?_
    try simp only [Act.put, List.setIfInBounds_toArray, List.set_cons_zero, List.set_cons_succ]
    refine wpAnyH_take (i := 11) (oi := { dst := some 78, op := _, type := _, pos := _, after := _, guard := _ }) (v := undef) rfl (by kernel_rfl) (by kernel_rfl) (by kernel_rfl) (fun _ _ _ h => h) (Or.inr ⟨by rfl, rfl⟩) hHeld ?_
    try simp only [Act.put, List.setIfInBounds_toArray, List.set_cons_zero, List.set_cons_succ]
    refine wpAnyH_take (i := 12) (oi := { dst := some 79, op := _, type := _, pos := _, after := _, guard := _ }) (v := ?v18x13) rfl (by kernel_rfl) (by kernel_rfl) (by kernel_rfl) (fun _ _ _ h => h) (Or.inl ⟨by rfl, ?hy18x13⟩) hHeld ?rest18x13
    case hy18x13 => (intro w hSw; go_simp <;> with_reducible rfl)
    try simp only [Act.put, List.setIfInBounds_toArray, List.set_cons_zero, List.set_cons_succ]
    refine wpAnyH_done (by kernel_rfl) ?_ _
    have j8 := JZ.out.keep s7
    have g8 := GZ.out.keep s7
    clear c0 c1 c2 c3 c4 c5 c6 d0 d1
    obtain ⟨j0, j1⟩ := j8.two
    obtain ⟨i0, i1⟩ := g8.two
    have jf := j8.frozen
    have J8 := hide j8
    have B8 := hide (below_on BZ.out s7)
    have R8 := hide (RZ.out.keep s7)
    clear j8 g8 hHeld
    clear s7 b7
    go_wp2_with fail
    (try simp only [Exit.inBlock, Exit.then])
    refine bodyPost_ret (results_cell_tmp rfl rfl (J8.out.set2 _ _) Try.underlying61 rfl (by kernel_rfl)) rfl ?_
    rw [HPz.out]
    exact ⟨none, 0, 0, rfl, Nat.le_refl _, Rd.nil _ _, below_set2 B8.out (Nat.le_succ _) _ _⟩
  · have HLz := hide (fun W' (hb : Below w.heap.size w W') hr => refAns_any f a c t an o 0 A none n k 0 0 vs [] W' (H1.out.keep hb) hr HM.out hbA)
    rw [hbA] at HAz
    have HPy := hide (show ansParseL ⟨f, a, c, vs, t, an, o⟩ xs = _ from by rw [HZ.out, hbA])
    clear hbA
    generalize ansL f a c vs t an o 0 [] = Y at *
    have hsB := strOn (H2.out.keep BZ.out)
    by_cases hY : Y = xs
    · have qs : (Y != xs) = false := by simp [hY]
      have qs2 : (!(Y == xs)) = false := by simp [hY]
      have HPz := HPy.out
      rw [if_pos ⟨rfl, hY⟩] at HPz
      replace HPz := hide HPz
      clear HPy hY
      refine wp_region_held_drew (S := fun w' => Below Z.heap.size Z w') (by kernel_rfl) ?_ (fun hHeld => ?_)
      · exact (Below.refl _ _).drew
      refine wpAnyH_take (i := 0) (oi := { dst := some 67, op := _, type := _, pos := _, after := _, guard := _ }) (v := ?v19x1) rfl (by kernel_rfl) (by kernel_rfl) (by kernel_rfl) (fun _ _ _ h => h) (Or.inl ⟨by rfl, ?hy19x1⟩) hHeld ?rest19x1
      case hy19x1 => (intro w hSw; go_simp <;> with_reducible rfl)
      try simp only [Act.put, List.setIfInBounds_toArray, List.set_cons_zero, List.set_cons_succ]
      refine wpAnyH_take (i := 1) (oi := { dst := some 68, op := _, type := _, pos := _, after := _, guard := _ }) (v := ?v19x2) rfl (by kernel_rfl) (by kernel_rfl) (by kernel_rfl) (fun _ _ _ h => h) (Or.inl ⟨by rfl, ?hy19x2⟩) hHeld ?rest19x2
      case hy19x2 => (intro w hSw; go_simp <;> with_reducible rfl)
      try simp only [Act.put, List.setIfInBounds_toArray, List.set_cons_zero, List.set_cons_succ]
      refine wpAnyH_ready (rs := [2]) (by kernel_rfl) (by simp) (AllReadyH.cons (o := { dst := some 69, op := _, type := _, pos := _, after := _, guard := _ }) rfl (fun K hK => ?_) AllReadyH.nil)
      go_simp
      refine (HAz.out _ (RZ.out.keep hHeld)).mono ?_
      rintro e w7 ⟨rfl, b7⟩
      have s7 := below_on hHeld b7
      go_wp2_with fail
      refine hK.out _ _ ?_ (fun hHeld => ?_)
      · exact s7
      clear hK K
      try simp only [Act.put, List.setIfInBounds_toArray, List.set_cons_zero, List.set_cons_succ]
      refine wpAnyH_take (i := 3) (oi := { dst := some 70, op := _, type := _, pos := _, after := _, guard := _ }) (v := ?v19x4) rfl (by kernel_rfl) (by kernel_rfl) (by kernel_rfl) (fun _ _ _ h => h) (Or.inl ⟨by rfl, ?hy19x4⟩) hHeld ?rest19x4
      case hy19x4 => (intro w hSw; go_simp <;> with_reducible rfl)
      try simp only [Act.put, List.setIfInBounds_toArray, List.set_cons_zero, List.set_cons_succ]
      refine wpAnyH_take (i := 4) (oi := { dst := some 71, op := _, type := _, pos := _, after := _, guard := _ }) (v := ?v19x5) rfl (by kernel_rfl) (by kernel_rfl) (by kernel_rfl) (fun _ _ _ h => h) (Or.inl ⟨by rfl, ?hy19x5⟩) hHeld ?rest19x5
      case hy19x5 => (intro w hSw; go_simp <;> with_reducible rfl)
      try simp only [Act.put, List.setIfInBounds_toArray, List.set_cons_zero, List.set_cons_succ]
      refine wpAnyH_take (i := 5) (oi := { dst := some 72, op := _, type := _, pos := _, after := _, guard := _ }) (v := ?v19x6) rfl (by kernel_rfl) (by kernel_rfl) (by kernel_rfl) (fun _ _ _ h => h) (Or.inl ⟨by rfl, ?hy19x6⟩) hHeld ?rest19x6
      case hy19x6 => (intro w hSw; go_simp <;> with_reducible rfl)
      try simp only [Act.put, List.setIfInBounds_toArray, List.set_cons_zero, List.set_cons_succ]
      refine wpAnyH_take (i := 6) (oi := { dst := some 73, op := _, type := _, pos := _, after := _, guard := _ }) (v := ?v19x7) rfl (by kernel_rfl) (by kernel_rfl) (by kernel_rfl) (fun _ _ _ h => h) (Or.inl ⟨by rfl, ?hy19x7⟩) hHeld ?rest19x7
      case hy19x7 => (intro w hSw; go_simp <;> with_reducible rfl)
      try simp only [Act.put, List.setIfInBounds_toArray, List.set_cons_zero, List.set_cons_succ]
      refine wpAnyH_take (i := 9) (oi := { dst := some 76, op := _, type := _, pos := _, after := _, guard := _ }) (v := ?v19x8) rfl (by kernel_rfl) (by kernel_rfl) (by kernel_rfl) (fun _ _ _ h => h) (Or.inl ⟨by rfl, ?hy19x8⟩) hHeld ?rest19x8
      case hy19x8 => (intro w hSw; go_simp <;> with_reducible rfl)
      try simp only [Act.put, List.setIfInBounds_toArray, List.set_cons_zero, List.set_cons_succ]
      refine wpAnyH_take (i := 10) (oi := { dst := some 77, op := _, type := _, pos := _, after := _, guard := _ }) (v := ?v19x9) rfl (by kernel_rfl) (by kernel_rfl) (by kernel_rfl) (fun _ _ _ h => h) (Or.inl ⟨by rfl, ?hy19x9⟩) hHeld ?rest19x9
      case hy19x9 => (intro w hSw; go_simp <;> with_reducible rfl)
      try simp only [Act.put, List.setIfInBounds_toArray, List.set_cons_zero, List.set_cons_succ]
      refine wpAnyH_ready (rs := [7]) (by kernel_rfl) (by simp) (AllReadyH.cons (o := { dst := some 74, op := _, type := _, pos := _, after := _, guard := _ }) rfl (fun K hK => ?_) AllReadyH.nil)
      go_simp
      refine (HLz.out _ (below_on BZ.out s7) (RZ.out.keep s7)).mono ?_
      rintro e w8 ⟨E, kE, rfl, lE, rE, b8⟩
      have s8 := below_on s7 b8
      have hsE := strOn rE
      have hsB8 := strOn (H2.out.keep (below_on BZ.out s8))
      go_wp2_with fail
      refine hK.out _ _ ?_ (fun hHeld => ?_)
      · exact below_on hHeld b8
      clear hK K
      try simp only [Act.put, List.setIfInBounds_toArray, List.set_cons_zero, List.set_cons_succ]
      refine wpAnyH_strong (S' := fun w' => Below w8.heap.size w8 w') (by intro w' h; exact below_on hHeld h) ?_
      replace hHeld : (fun w' => Below w8.heap.size w8 w') _ := Below.refl _ _
      refine wpAnyH_take (i := 8) (oi := { dst := some 75, op := _, type := _, pos := _, after := _, guard := _ }) (v := ?v19x11) rfl (by kernel_rfl) (by kernel_rfl) (by kernel_rfl) (fun _ _ _ h => h) (Or.inl ⟨by rfl, ?hy19x11⟩) hHeld ?rest19x11
      case hy19x11 => (intro w hSw; go_simp <;> with_reducible rfl)
      try simp only [Act.put, List.setIfInBounds_toArray, List.set_cons_zero, List.set_cons_succ]
      refine wpAnyH_take (i := 11) (oi := { dst := some 78, op := _, type := _, pos := _, after := _, guard := _ }) (v := ?v19x12) rfl (by kernel_rfl) (by kernel_rfl) (by kernel_rfl) (fun _ _ _ h => h) (Or.inl ⟨by rfl, ?hy19x12⟩) hHeld ?rest19x12
      case hy19x12 => (intro w hSw; go_simp <;> with_reducible rfl)
      try simp only [Act.put, List.setIfInBounds_toArray, List.set_cons_zero, List.set_cons_succ]
      refine wpAnyH_take (i := 12) (oi := { dst := some 79, op := _, type := _, pos := _, after := _, guard := _ }) (v := ?v19x13) rfl (by kernel_rfl) (by kernel_rfl) (by kernel_rfl) (fun _ _ _ h => h) (Or.inl ⟨by rfl, ?hy19x13⟩) hHeld ?rest19x13
      case hy19x13 => (intro w hSw; go_simp <;> with_reducible rfl)
      try simp only [Act.put, List.setIfInBounds_toArray, List.set_cons_zero, List.set_cons_succ]
      refine wpAnyH_done (by kernel_rfl) ?_ _
      clear hsE hsB hsB8 rE
      have j8 := JZ.out.keep s8
      have g8 := GZ.out.keep s8
      clear c0 c1 c2 c3 c4 c5 c6 d0 d1
      obtain ⟨j0, j1⟩ := j8.two
      obtain ⟨i0, i1⟩ := g8.two
      have jf := j8.frozen
      have J8 := hide j8
      have B8 := hide (below_on BZ.out s8)
      have R8 := hide (RZ.out.keep s8)
      clear j8 g8 hHeld
      clear s7 b7 s8 b8
      go_wp2_with fail
      (try simp only [Exit.inBlock, Exit.then])
      refine bodyPost_ret (results_cell_tmp rfl rfl (J8.out.set2 _ _) Try.underlying61 rfl (by kernel_rfl)) rfl ?_
      rw [HPz.out]
      exact ⟨none, 0, 0, rfl, (Nat.le_refl _), R8.out.set2 NCg.out _ _, below_set2 B8.out (Nat.le_succ _) _ _⟩
    · have qs : (Y != xs) = true := by simp [hY]
      have qs2 : (!(Y == xs)) = true := by simp [hY]
      have HPz := HPy.out
      rw [if_neg (fun h => hY h.2)] at HPz
      replace HPz := hide HPz
      clear HPy hY
      refine wp_region_held_drew (S := fun w' => Below Z.heap.size Z w') (by kernel_rfl) ?_ (fun hHeld => ?_)
      · exact (Below.refl _ _).drew
      refine wpAnyH_take (i := 0) (oi := { dst := some 67, op := _, type := _, pos := _, after := _, guard := _ }) (v := ?v20x1) rfl (by kernel_rfl) (by kernel_rfl) (by kernel_rfl) (fun _ _ _ h => h) (Or.inl ⟨by rfl, ?hy20x1⟩) hHeld ?rest20x1
      case hy20x1 => (intro w hSw; go_simp <;> with_reducible rfl)
      try simp only [Act.put, List.setIfInBounds_toArray, List.set_cons_zero, List.set_cons_succ]
      refine wpAnyH_take (i := 1) (oi := { dst := some 68, op := _, type := _, pos := _, after := _, guard := _ }) (v := ?v20x2) rfl (by kernel_rfl) (by kernel_rfl) (by kernel_rfl) (fun _ _ _ h => h) (Or.inl ⟨by rfl, ?hy20x2⟩) hHeld ?rest20x2
      case hy20x2 => (intro w hSw; go_simp <;> with_reducible rfl)
      try simp only [Act.put, List.setIfInBounds_toArray, List.set_cons_zero, List.set_cons_succ]
      refine wpAnyH_ready (rs := [2]) (by kernel_rfl) (by simp) (AllReadyH.cons (o := { dst := some 69, op := _, type := _, pos := _, after := _, guard := _ }) rfl (fun K hK => ?_) AllReadyH.nil)
      go_simp
      refine (HAz.out _ (RZ.out.keep hHeld)).mono ?_
      rintro e w7 ⟨rfl, b7⟩
      have s7 := below_on hHeld b7
      go_wp2_with fail
      refine hK.out _ _ ?_ (fun hHeld => ?_)
      · exact s7
      clear hK K
      try simp only [Act.put, List.setIfInBounds_toArray, List.set_cons_zero, List.set_cons_succ]
      refine wpAnyH_take (i := 3) (oi := { dst := some 70, op := _, type := _, pos := _, after := _, guard := _ }) (v := ?v20x4) rfl (by kernel_rfl) (by kernel_rfl) (by kernel_rfl) (fun _ _ _ h => h) (Or.inl ⟨by rfl, ?hy20x4⟩) hHeld ?rest20x4
      case hy20x4 => (intro w hSw; go_simp <;> with_reducible rfl)
      try simp only [Act.put, List.setIfInBounds_toArray, List.set_cons_zero, List.set_cons_succ]
      refine wpAnyH_take (i := 4) (oi := { dst := some 71, op := _, type := _, pos := _, after := _, guard := _ }) (v := ?v20x5) rfl (by kernel_rfl) (by kernel_rfl) (by kernel_rfl) (fun _ _ _ h => h) (Or.inl ⟨by rfl, ?hy20x5⟩) hHeld ?rest20x5
      case hy20x5 => (intro w hSw; go_simp <;> with_reducible rfl)
      try simp only [Act.put, List.setIfInBounds_toArray, List.set_cons_zero, List.set_cons_succ]
      refine wpAnyH_take (i := 5) (oi := { dst := some 72, op := _, type := _, pos := _, after := _, guard := _ }) (v := ?v20x6) rfl (by kernel_rfl) (by kernel_rfl) (by kernel_rfl) (fun _ _ _ h => h) (Or.inl ⟨by rfl, ?hy20x6⟩) hHeld ?rest20x6
      case hy20x6 => (intro w hSw; go_simp <;> with_reducible rfl)
      try simp only [Act.put, List.setIfInBounds_toArray, List.set_cons_zero, List.set_cons_succ]
      refine wpAnyH_take (i := 6) (oi := { dst := some 73, op := _, type := _, pos := _, after := _, guard := _ }) (v := ?v20x7) rfl (by kernel_rfl) (by kernel_rfl) (by kernel_rfl) (fun _ _ _ h => h) (Or.inl ⟨by rfl, ?hy20x7⟩) hHeld ?rest20x7
      case hy20x7 => (intro w hSw; go_simp <;> with_reducible rfl)
      try simp only [Act.put, List.setIfInBounds_toArray, List.set_cons_zero, List.set_cons_succ]
      refine wpAnyH_take (i := 9) (oi := { dst := some 76, op := _, type := _, pos := _, after := _, guard := _ }) (v := ?v20x8) rfl (by kernel_rfl) (by kernel_rfl) (by kernel_rfl) (fun _ _ _ h => h) (Or.inl ⟨by rfl, ?hy20x8⟩) hHeld ?rest20x8
      case hy20x8 => (intro w hSw; go_simp <;> with_reducible rfl)
      try simp only [Act.put, List.setIfInBounds_toArray, List.set_cons_zero, List.set_cons_succ]
      refine wpAnyH_take (i := 10) (oi := { dst := some 77, op := _, type := _, pos := _, after := _, guard := _ }) (v := ?v20x9) rfl (by kernel_rfl) (by kernel_rfl) (by kernel_rfl) (fun _ _ _ h => h) (Or.inl ⟨by rfl, ?hy20x9⟩) hHeld ?rest20x9
      case hy20x9 => (intro w hSw; go_simp <;> with_reducible rfl)
      try simp only [Act.put, List.setIfInBounds_toArray, List.set_cons_zero, List.set_cons_succ]
      refine wpAnyH_ready (rs := [7]) (by kernel_rfl) (by simp) (AllReadyH.cons (o := { dst := some 74, op := _, type := _, pos := _, after := _, guard := _ }) rfl (fun K hK => ?_) AllReadyH.nil)
      go_simp
      refine (HLz.out _ (below_on BZ.out s7) (RZ.out.keep s7)).mono ?_
      rintro e w8 ⟨E, kE, rfl, lE, rE, b8⟩
      have s8 := below_on s7 b8
      have hsE := strOn rE
      have hsB8 := strOn (H2.out.keep (below_on BZ.out s8))
      go_wp2_with fail
      refine hK.out _ _ ?_ (fun hHeld => ?_)
      · exact below_on hHeld b8
      clear hK K
      try simp only [Act.put, List.setIfInBounds_toArray, List.set_cons_zero, List.set_cons_succ]
      refine wpAnyH_strong (S' := fun w' => Below w8.heap.size w8 w') (by intro w' h; exact below_on hHeld h) ?_
      replace hHeld : (fun w' => Below w8.heap.size w8 w') _ := Below.refl _ _
      refine wpAnyH_take (i := 8) (oi := { dst := some 75, op := _, type := _, pos := _, after := _, guard := _ }) (v := ?v20x11) rfl (by kernel_rfl) (by kernel_rfl) (by kernel_rfl) (fun _ _ _ h => h) (Or.inl ⟨by rfl, ?hy20x11⟩) hHeld ?rest20x11
      case hy20x11 => (intro w hSw; go_simp <;> with_reducible rfl)
      try simp only [Act.put, List.setIfInBounds_toArray, List.set_cons_zero, List.set_cons_succ]
      refine wpAnyH_take (i := 11) (oi := { dst := some 78, op := _, type := _, pos := _, after := _, guard := _ }) (v := ?v20x12) rfl (by kernel_rfl) (by kernel_rfl) (by kernel_rfl) (fun _ _ _ h => h) (Or.inl ⟨by rfl, ?hy20x12⟩) hHeld ?rest20x12
      case hy20x12 => (intro w hSw; go_simp <;> with_reducible rfl)
      try simp only [Act.put, List.setIfInBounds_toArray, List.set_cons_zero, List.set_cons_succ]
      refine wpAnyH_take (i := 12) (oi := { dst := some 79, op := _, type := _, pos := _, after := _, guard := _ }) (v := ?v20x13) rfl (by kernel_rfl) (by kernel_rfl) (by kernel_rfl) (fun _ _ _ h => h) (Or.inl ⟨by rfl, ?hy20x13⟩) hHeld ?rest20x13
      case hy20x13 => (intro w hSw; go_simp <;> with_reducible rfl)
      try simp only [Act.put, List.setIfInBounds_toArray, List.set_cons_zero, List.set_cons_succ]
      refine wpAnyH_done (by kernel_rfl) ?_ _
      clear hsE hsB hsB8 rE
      have j8 := JZ.out.keep s8
      have g8 := GZ.out.keep s8
      clear c0 c1 c2 c3 c4 c5 c6 d0 d1
      obtain ⟨j0, j1⟩ := j8.two
      obtain ⟨i0, i1⟩ := g8.two
      have jf := j8.frozen
      have J8 := hide j8
      have B8 := hide (below_on BZ.out s8)
      have R8 := hide (RZ.out.keep s8)
      clear j8 g8 hHeld
      clear s7 b7 s8 b8
      go_wp2_with fail
      (try simp only [Exit.inBlock, Exit.then])
      refine bodyPost_ret (results_cell_tmp rfl rfl (J8.out.set2 _ _) Try.underlying61 rfl (by kernel_rfl)) rfl ?_
      rw [HPz.out]
      exact ⟨none, 0, 0, rfl, Nat.le_refl _, Rd.nil _ _, below_set2 B8.out (Nat.le_succ _) _ _⟩

set_option maxRecDepth 100000 in
set_option maxHeartbeats 1000000 in
theorem refAnsP_code (f a c t an o x : Int) (A : Option Addr) (b o' n k l d : Nat) (vs : List Int) (xs : List UInt8) (w : World) (h1 : Rd w A n (iv vs)) (h2 : Rd w (some ⟨b, o', none⟩) l (bv xs)) (hd : l ≤ d) (hl0 : 2 ≤ l) (hl6 : l ≤ 600) (x0 : w.cell? ⟨b, o', none⟩ = some (.int .u8 x)) (hx0 : 0 ≤ x) (hx1 : x ≤ 255) (hM : mayB f a c vs t an o = true) (p : Nat) (hx : x = f + 128) (x1 : w.cell? ⟨b, o' + 1, none⟩ = some (.int .u8 (p : Int))) (hp0 : 0 < p) (hp : p < 256) (hZ : ansParseL ⟨f, a, c, vs, t, an, o⟩ xs = if ansMayB f c (p : Int) [] = true ∧ ansL f a c vs t an o (p : Int) [] = xs then some ⟨[], (p : Int)⟩ else none) :
    Calls Try.prog 37 #[.agg #[.int .i64 f, .int .i64 a, .int .i64 c, .slice A n k, .int .i64 t, .int .i64 an, .int .i64 o], .slice (some ⟨b, o', none⟩) l d] w (RetAnB ((ansParseL ⟨f, a, c, vs, t, an, o⟩ xs).getD An.none) (ansParseL ⟨f, a, c, vs, t, an, o⟩ xs).isSome w) := by
  have hbl : b < w.heap.size := block_lt_of_cell x0
  have q0 : (0 : Int) < (l : Int) := by omega
  have q0n : 0 < l := by omega
  have q2 : decide ((l : Int) < 2) = false := by simp; omega
  have X0 := hide x0
  have H1 := hide h1
  have H2 := hide h2
  have HM := hide hM
  have hct := may_count hM
  have hxl : xs.length = l := by rw [← bv_length]; exact h2.1
  subst hx
  have hf := may_func hM
  have hfb : 1 ≤ f ∧ f ≤ 23 := by omega
  obtain ⟨hf1, hf2⟩ := hfb
  have q : (f + 128 == f + 128) = true := by simp
  have q1 : (1 : Int) < (l : Int) := by omega
  have qp : ((p : Int) == 0) = false := ne_beq (by omega)
  have HZ := hide hZ
  have X1 := hide x1
  clear x0 x1 h1 h2 hM hxl hf hZ hct
  go_enter Try.func37, Try.ntmps37
  go_wp2_with fail
  generalize hW : ((w.alloc (.cells #[.int .i64 f, .int .i64 a, .int .i64 c, .slice A n k, .int .i64 t, .int .i64 an, .int .i64 o] 37)).alloc (.cells #[.slice none 0 0, .int .i64 0] 61)).alloc (.cells #[.slice none 0 0, .int .i64 0] 61) = W
  obtain ⟨hB1, hB2, hB3, hBel, hsz⟩ := three_boxes w [.int .i64 f, .int .i64 a, .int .i64 c, .slice A n k, .int .i64 t, .int .i64 an, .int .i64 o] [.slice none 0 0, .int .i64 0] [.slice none 0 0, .int .i64 0] 37 61 61 W hW.symm
  clear hW
  have hw1 : w.heap.size < W.heap.size := by omega
  have hw2 : w.heap.size + 1 < W.heap.size := by omega
  have hw3 : w.heap.size + 2 < W.heap.size := by omega
  have x0 := (hBel.cell (p := ⟨b, o', none⟩) hbl).trans X0.out
  obtain ⟨k0, k1, k2, k3, k4, k5, k6⟩ := hB1.seven
  obtain ⟨j0, j1⟩ := hB2.two
  obtain ⟨i0, i1⟩ := hB3.two
  have jf := hB2.frozen
  have if_ := hB3.frozen
  have K := hide hB1
  have J := hide hB2
  have G := hide hB3
  have BL := hide hBel
  clear hB1 hB2 hB3 hBel hsz
  go_quiet (fail)
  have K' : Hid (Blk (W.drewN nq) w.heap.size 37 _) := K.out
  have J' : Hid (Blk (W.drewN nq) (w.heap.size + 1) 61 _) := J.out
  have G' : Hid (Blk (W.drewN nq) (w.heap.size + 2) 61 _) := G.out
  have BL' : Hid (Below w.heap.size w (W.drewN nq)) := below_drewN BL.out nq
  generalize W.drewN nq = V at *
  clear k0 k1 k2 k3 k4 k5 k6 j0 j1 i0 i1 jf if_ K J G BL x0 hw1 hw2 hw3
  clear W
  have K := K'
  have J := J'
  have G := G'
  have BL := BL'
  clear K' J' G' BL'
  have hw1 : w.heap.size < V.heap.size := K.out.lt
  have hw2 : w.heap.size + 1 < V.heap.size := J.out.lt
  have hw3 : w.heap.size + 2 < V.heap.size := G.out.lt
  obtain ⟨k0, k1, k2, k3, k4, k5, k6⟩ := K.out.seven
  obtain ⟨j0, j1⟩ := J.out.two
  obtain ⟨i0, i1⟩ := G.out.two
  have jf := J.out.frozen
  have if_ := G.out.frozen
  have x1 := (BL.out.cell (p := ⟨b, o' + 1, none⟩) hbl).trans X1.out
  have KZ : Hid (Blk (V.setCell ⟨w.heap.size + 2, 1, none⟩ (.int .i64 (p : Int))) w.heap.size 37 _) := K.out.oth (by omega) 1 _
  have JZ : Hid (Blk (V.setCell ⟨w.heap.size + 2, 1, none⟩ (.int .i64 (p : Int))) (w.heap.size + 1) 61 _) := J.out.oth (by omega) 1 _
  have GZ : Hid (Blk (V.setCell ⟨w.heap.size + 2, 1, none⟩ (.int .i64 (p : Int))) (w.heap.size + 2) 61 [.slice none 0 0, .int .i64 (p : Int)]) := G.out.set 1 _
  have BZ : Hid (Below w.heap.size w (V.setCell ⟨w.heap.size + 2, 1, none⟩ (.int .i64 (p : Int)))) := BL.out.setCell (Nat.le_add_right _ 2) _
  have hmm : 0 ≤ 1000000 := by omega
  have NCg : Hid (∀ b o, (none : Option Addr) = some ⟨b, o, none⟩ → b ≠ w.heap.size + 1) := fun b o e => by cases e
  go_wp2_with fail
  clear k0 k1 k2 k3 k4 k5 k6 j0 j1 i0 i1 jf if_ K J G BL x1
  generalize V.setCell ⟨w.heap.size + 2, 1, none⟩ (.int .i64 (p : Int)) = Z at *
  have RZ : Hid (Rd Z none 0 (iv [])) := Rd.nil _ _
  go_wp2_with fail
  have c0 := KZ.out.on 0 _ rfl
  have c1 := KZ.out.on 1 _ rfl
  have c2 := KZ.out.on 2 _ rfl
  have c3 := KZ.out.on 3 _ rfl
  have c4 := KZ.out.on 4 _ rfl
  have c5 := KZ.out.on 5 _ rfl
  have c6 := KZ.out.on 6 _ rfl
  have d0 := GZ.out.on 0 _ rfl
  have d1 := GZ.out.on 1 _ rfl
  have HAz := hide (fun W' hr => refAnsMay_any f a c t an o (p : Int) A none n k 0 0 [] W' hr hmm)
  cases hbA : ansMayB f c (p : Int) []
  · rw [hbA] at HAz
    have HPz := hide (show ansParseL ⟨f, a, c, vs, t, an, o⟩ xs = none from by rw [HZ.out, hbA, if_neg (by simp)])
    clear hbA
    refine wp_region_held_drew (S := fun w' => Below Z.heap.size Z w') (by kernel_rfl) ?_ (fun hHeld => ?_)
    · exact (Below.refl _ _).drew
    refine wpAnyH_take (i := 0) (oi := { dst := some 67, op := _, type := _, pos := _, after := _, guard := _ }) (v := ?v21x1) rfl (by kernel_rfl) (by kernel_rfl) (by kernel_rfl) (fun _ _ _ h => h) (Or.inl ⟨by rfl, ?hy21x1⟩) hHeld ?rest21x1
    case hy21x1 => (intro w hSw; go_simp <;> with_reducible rfl)
    try simp only [Act.put, List.setIfInBounds_toArray, List.set_cons_zero, List.set_cons_succ]
    refine wpAnyH_take (i := 1) (oi := { dst := some 68, op := _, type := _, pos := _, after := _, guard := _ }) (v := ?v21x2) rfl (by kernel_rfl) (by kernel_rfl) (by kernel_rfl) (fun _ _ _ h => h) (Or.inl ⟨by rfl, ?hy21x2⟩) hHeld ?rest21x2
    case hy21x2 => (intro w hSw; go_simp <;> with_reducible rfl)
    try simp only [Act.put, List.setIfInBounds_toArray, List.set_cons_zero, List.set_cons_succ]
    refine wpAnyH_ready (rs := [2]) (by kernel_rfl) (by simp) (AllReadyH.cons (o := { dst := some 69, op := _, type := _, pos := _, after := _, guard := _ }) rfl (fun K hK => ?_) AllReadyH.nil)
    go_simp
    refine (HAz.out _ (RZ.out.keep hHeld)).mono ?_
    rintro e w7 ⟨rfl, b7⟩
    have s7 := below_on hHeld b7
    go_wp2_with fail
    refine hK.out _ _ ?_ (fun hHeld => ?_)
    · exact s7
    clear hK K
    try simp only [Act.put, List.setIfInBounds_toArray, List.set_cons_zero, List.set_cons_succ]
    refine wpAnyH_take (i := 3) (oi := { dst := some 70, op := _, type := _, pos := _, after := _, guard := _ }) (v := ?v21x4) rfl (by kernel_rfl) (by kernel_rfl) (by kernel_rfl) (fun _ _ _ h => h) (Or.inl ⟨by rfl, ?hy21x4⟩) hHeld ?rest21x4
    case hy21x4 => (intro w hSw; go_simp <;> with_reducible rfl)
    try simp only [Act.put, List.setIfInBounds_toArray, List.set_cons_zero, List.set_cons_succ]
    refine wpAnyH_take (i := 4) (oi := { dst := some 71, op := _, type := _, pos := _, after := _, guard := _ }) (v := ?v21x5) rfl (by kernel_rfl) (by kernel_rfl) (by kernel_rfl) (fun _ _ _ h => h) (Or.inl ⟨by rfl, ?hy21x5⟩) hHeld ?rest21x5
    case hy21x5 => (intro w hSw; go_simp <;> with_reducible rfl)
    try simp only [Act.put, List.setIfInBounds_toArray, List.set_cons_zero, List.set_cons_succ]
    refine wpAnyH_take (i := 5) (oi := { dst := some 72, op := _, type := _, pos := _, after := _, guard := _ }) (v := undef) rfl (by kernel_rfl) (by kernel_rfl) (by kernel_rfl) (fun _ _ _ h => h) (Or.inr ⟨by rfl, rfl⟩) hHeld ?_
    try simp only [Act.put, List.setIfInBounds_toArray, List.set_cons_zero, List.set_cons_succ]
    refine wpAnyH_take (i := 6) (oi := { dst := some 73, op := _, type := _, pos := _, after := _, guard := _ }) (v := undef) rfl (by kernel_rfl) (by kernel_rfl) (by kernel_rfl) (fun _ _ _ h => h) (Or.inr ⟨by rfl, rfl⟩) hHeld ?_
    try simp only [Act.put, List.setIfInBounds_toArray, List.set_cons_zero, List.set_cons_succ]
    refine wpAnyH_take (i := 7) (oi := { dst := some 74, op := _, type := _, pos := _, after := _, guard := _ }) (v := undef) rfl (by kernel_rfl) (by kernel_rfl) (by kernel_rfl) (fun _ _ _ h => h) (Or.inr ⟨by rfl, rfl⟩) hHeld ?_
    try simp only [Act.put, List.setIfInBounds_toArray, List.set_cons_zero, List.set_cons_succ]
    refine wpAnyH_take (i := 8) (oi := { dst := some 75, op := _, type := _, pos := _, after := _, guard := _ }) (v := undef) rfl (by kernel_rfl) (by kernel_rfl) (by kernel_rfl) (fun _ _ _ h => h) (Or.inr ⟨by rfl, rfl⟩) hHeld ?_
    try simp only [Act.put, List.setIfInBounds_toArray, List.set_cons_zero, List.set_cons_succ]
    refine wpAnyH_take (i := 9) (oi := { dst := some 76, op := _, type := _, pos := _, after := _, guard := _ }) (v := undef) rfl (by kernel_rfl) (by kernel_rfl) (by kernel_rfl) (fun _ _ _ h => h) (Or.inr ⟨by rfl, rfl⟩) hHeld ?_
    try simp only [Act.put, List.setIfInBounds_toArray, List.set_cons_zero, List.set_cons_succ]
    refine wpAnyH_take (i := 10) (oi := { dst := some 77, op := _, type := _, pos := _, after := _, guard := _ }) (v := undef) rfl (by kernel_rfl) (by kernel_rfl) (by kernel_rfl) (fun _ _ _ h => h) (Or.inr ⟨by rfl, rfl⟩) hHeld ?_
    try simp only [Act.put, List.setIfInBounds_toArray, List.set_cons_zero, List.set_cons_succ]
    refine wpAnyH_take (i := 11) (oi := { dst := some 78, op := _, type := _, pos := _, after := _, guard := _ }) (v := undef) rfl (by kernel_rfl) (by kernel_rfl) (by kernel_rfl) (fun _ _ _ h => h) (Or.inr ⟨by rfl, rfl⟩) hHeld ?_
    try simp only [Act.put, List.setIfInBounds_toArray, List.set_cons_zero, List.set_cons_succ]
    refine wpAnyH_take (i := 12) (oi := { dst := some 79, op := _, type := _, pos := _, after := _, guard := _ }) (v := ?v21x13) rfl (by kernel_rfl) (by kernel_rfl) (by kernel_rfl) (fun _ _ _ h => h) (Or.inl ⟨by rfl, ?hy21x13⟩) hHeld ?rest21x13
    case hy21x13 => (intro w hSw; go_simp <;> with_reducible rfl)
    try simp only [Act.put, List.setIfInBounds_toArray, List.set_cons_zero, List.set_cons_succ]
    refine wpAnyH_done (by kernel_rfl) ?_ _
    have j8 := JZ.out.keep s7
    have g8 := GZ.out.keep s7
    clear c0 c1 c2 c3 c4 c5 c6 d0 d1
    obtain ⟨j0, j1⟩ := j8.two
    obtain ⟨i0, i1⟩ := g8.two
    have jf := j8.frozen
    have J8 := hide j8
    have B8 := hide (below_on BZ.out s7)
    have R8 := hide (RZ.out.keep s7)
    clear j8 g8 hHeld
    clear s7 b7
    go_wp2_with fail
    (try simp only [Exit.inBlock, Exit.then])
    refine bodyPost_ret (results_cell_tmp rfl rfl (J8.out.set2 _ _) Try.underlying61 rfl (by kernel_rfl)) rfl ?_
    rw [HPz.out]
    exact ⟨none, 0, 0, rfl, Nat.le_refl _, Rd.nil _ _, below_set2 B8.out (Nat.le_succ _) _ _⟩
  · have HLz := hide (fun W' (hb : Below w.heap.size w W') hr => refAns_any f a c t an o (p : Int) A none n k 0 0 vs [] W' (H1.out.keep hb) hr HM.out hbA)
    rw [hbA] at HAz
    have HPy := hide (show ansParseL ⟨f, a, c, vs, t, an, o⟩ xs = _ from by rw [HZ.out, hbA])
    clear hbA
    generalize ansL f a c vs t an o (p : Int) [] = Y at *
    have hsB := strOn (H2.out.keep BZ.out)
    by_cases hY : Y = xs
    · have qs : (Y != xs) = false := by simp [hY]
      have qs2 : (!(Y == xs)) = false := by simp [hY]
      have HPz := HPy.out
      rw [if_pos ⟨rfl, hY⟩] at HPz
      replace HPz := hide HPz
      clear HPy hY
      refine wp_region_held_drew (S := fun w' => Below Z.heap.size Z w') (by kernel_rfl) ?_ (fun hHeld => ?_)
      · exact (Below.refl _ _).drew
      refine wpAnyH_take (i := 0) (oi := { dst := some 67, op := _, type := _, pos := _, after := _, guard := _ }) (v := ?v22x1) rfl (by kernel_rfl) (by kernel_rfl) (by kernel_rfl) (fun _ _ _ h => h) (Or.inl ⟨by rfl, ?hy22x1⟩) hHeld ?rest22x1
      case hy22x1 => (intro w hSw; go_simp <;> with_reducible rfl)
      try simp only [Act.put, List.setIfInBounds_toArray, List.set_cons_zero, List.set_cons_succ]
      refine wpAnyH_take (i := 1) (oi := { dst := some 68, op := _, type := _, pos := _, after := _, guard := _ }) (v := ?v22x2) rfl (by kernel_rfl) (by kernel_rfl) (by kernel_rfl) (fun _ _ _ h => h) (Or.inl ⟨by rfl, ?hy22x2⟩) hHeld ?rest22x2
      case hy22x2 => (intro w hSw; go_simp <;> with_reducible rfl)
      try simp only [Act.put, List.setIfInBounds_toArray, List.set_cons_zero, List.set_cons_succ]
      refine wpAnyH_ready (rs := [2]) (by kernel_rfl) (by simp) (AllReadyH.cons (o := { dst := some 69, op := _, type := _, pos := _, after := _, guard := _ }) rfl (fun K hK => ?_) AllReadyH.nil)
      go_simp
      refine (HAz.out _ (RZ.out.keep hHeld)).mono ?_
      rintro e w7 ⟨rfl, b7⟩
      have s7 := below_on hHeld b7
      go_wp2_with fail
      refine hK.out _ _ ?_ (fun hHeld => ?_)
      · exact s7
      clear hK K
      try simp only [Act.put, List.setIfInBounds_toArray, List.set_cons_zero, List.set_cons_succ]
      refine wpAnyH_take (i := 3) (oi := { dst := some 70, op := _, type := _, pos := _, after := _, guard := _ }) (v := ?v22x4) rfl (by kernel_rfl) (by kernel_rfl) (by kernel_rfl) (fun _ _ _ h => h) (Or.inl ⟨by rfl, ?hy22x4⟩) hHeld ?rest22x4
      case hy22x4 => (intro w hSw; go_simp <;> with_reducible rfl)
      try simp only [Act.put, List.setIfInBounds_toArray, List.set_cons_zero, List.set_cons_succ]
      refine wpAnyH_take (i := 4) (oi := { dst := some 71, op := _, type := _, pos := _, after := _, guard := _ }) (v := ?v22x5) rfl (by kernel_rfl) (by kernel_rfl) (by kernel_rfl) (fun _ _ _ h => h) (Or.inl ⟨by rfl, ?hy22x5⟩) hHeld ?rest22x5
      case hy22x5 => (intro w hSw; go_simp <;> with_reducible rfl)
      try simp only [Act.put, List.setIfInBounds_toArray, List.set_cons_zero, List.set_cons_succ]
      refine wpAnyH_take (i := 5) (oi := { dst := some 72, op := _, type := _, pos := _, after := _, guard := _ }) (v := ?v22x6) rfl (by kernel_rfl) (by kernel_rfl) (by kernel_rfl) (fun _ _ _ h => h) (Or.inl ⟨by rfl, ?hy22x6⟩) hHeld ?rest22x6
      case hy22x6 => (intro w hSw; go_simp <;> with_reducible rfl)
      try simp only [Act.put, List.setIfInBounds_toArray, List.set_cons_zero, List.set_cons_succ]
      refine wpAnyH_take (i := 6) (oi := { dst := some 73, op := _, type := _, pos := _, after := _, guard := _ }) (v := ?v22x7) rfl (by kernel_rfl) (by kernel_rfl) (by kernel_rfl) (fun _ _ _ h => h) (Or.inl ⟨by rfl, ?hy22x7⟩) hHeld ?rest22x7
      case hy22x7 => (intro w hSw; go_simp <;> with_reducible rfl)
      try simp only [Act.put, List.setIfInBounds_toArray, List.set_cons_zero, List.set_cons_succ]
      refine wpAnyH_take (i := 9) (oi := { dst := some 76, op := _, type := _, pos := _, after := _, guard := _ }) (v := ?v22x8) rfl (by kernel_rfl) (by kernel_rfl) (by kernel_rfl) (fun _ _ _ h => h) (Or.inl ⟨by rfl, ?hy22x8⟩) hHeld ?rest22x8
      case hy22x8 => (intro w hSw; go_simp <;> with_reducible rfl)
      try simp only [Act.put, List.setIfInBounds_toArray, List.set_cons_zero, List.set_cons_succ]
      refine wpAnyH_take (i := 10) (oi := { dst := some 77, op := _, type := _, pos := _, after := _, guard := _ }) (v := ?v22x9) rfl (by kernel_rfl) (by kernel_rfl) (by kernel_rfl) (fun _ _ _ h => h) (Or.inl ⟨by rfl, ?hy22x9⟩) hHeld ?rest22x9
      case hy22x9 => (intro w hSw; go_simp <;> with_reducible rfl)
      try simp only [Act.put, List.setIfInBounds_toArray, List.set_cons_zero, List.set_cons_succ]
      refine wpAnyH_ready (rs := [7]) (by kernel_rfl) (by simp) (AllReadyH.cons (o := { dst := some 74, op := _, type := _, pos := _, after := _, guard := _ }) rfl (fun K hK => ?_) AllReadyH.nil)
      go_simp
      refine (HLz.out _ (below_on BZ.out s7) (RZ.out.keep s7)).mono ?_
      rintro e w8 ⟨E, kE, rfl, lE, rE, b8⟩
      have s8 := below_on s7 b8
      have hsE := strOn rE
      have hsB8 := strOn (H2.out.keep (below_on BZ.out s8))
      go_wp2_with fail
      refine hK.out _ _ ?_ (fun hHeld => ?_)
      · exact below_on hHeld b8
      clear hK K
      try simp only [Act.put, List.setIfInBounds_toArray, List.set_cons_zero, List.set_cons_succ]
      refine wpAnyH_strong (S' := fun w' => Below w8.heap.size w8 w') (by intro w' h; exact below_on hHeld h) ?_
      replace hHeld : (fun w' => Below w8.heap.size w8 w') _ := Below.refl _ _
      refine wpAnyH_take (i := 8) (oi := { dst := some 75, op := _, type := _, pos := _, after := _, guard := _ }) (v := ?v22x11) rfl (by kernel_rfl) (by kernel_rfl) (by kernel_rfl) (fun _ _ _ h => h) (Or.inl ⟨by rfl, ?hy22x11⟩) hHeld ?rest22x11
      case hy22x11 => (intro w hSw; go_simp <;> with_reducible rfl)
      try simp only [Act.put, List.setIfInBounds_toArray, List.set_cons_zero, List.set_cons_succ]
      refine wpAnyH_take (i := 11) (oi := { dst := some 78, op := _, type := _, pos := _, after := _, guard := _ }) (v := ?v22x12) rfl (by kernel_rfl) (by kernel_rfl) (by kernel_rfl) (fun _ _ _ h => h) (Or.inl ⟨by rfl, ?hy22x12⟩) hHeld ?rest22x12
      case hy22x12 => (intro w hSw; go_simp <;> with_reducible rfl)
      try simp only [Act.put, List.setIfInBounds_toArray, List.set_cons_zero, List.set_cons_succ]
      refine wpAnyH_take (i := 12) (oi := { dst := some 79, op := _, type := _, pos := _, after := _, guard := _ }) (v := ?v22x13) rfl (by kernel_rfl) (by kernel_rfl) (by kernel_rfl) (fun _ _ _ h => h) (Or.inl ⟨by rfl, ?hy22x13⟩) hHeld ?rest22x13
      case hy22x13 => (intro w hSw; go_simp <;> with_reducible rfl)
      try simp only [Act.put, List.setIfInBounds_toArray, List.set_cons_zero, List.set_cons_succ]
      refine wpAnyH_done (by kernel_rfl) ?_ _
      clear hsE hsB hsB8 rE
      have j8 := JZ.out.keep s8
      have g8 := GZ.out.keep s8
      clear c0 c1 c2 c3 c4 c5 c6 d0 d1
      obtain ⟨j0, j1⟩ := j8.two
      obtain ⟨i0, i1⟩ := g8.two
      have jf := j8.frozen
      have J8 := hide j8
      have B8 := hide (below_on BZ.out s8)
      have R8 := hide (RZ.out.keep s8)
      clear j8 g8 hHeld
      clear s7 b7 s8 b8
      go_wp2_with fail
      (try simp only [Exit.inBlock, Exit.then])
      refine bodyPost_ret (results_cell_tmp rfl rfl (J8.out.set2 _ _) Try.underlying61 rfl (by kernel_rfl)) rfl ?_
      rw [HPz.out]
      exact ⟨none, 0, 0, rfl, (Nat.le_refl _), R8.out.set2 NCg.out _ _, below_set2 B8.out (Nat.le_succ _) _ _⟩
    · have qs : (Y != xs) = true := by simp [hY]
      have qs2 : (!(Y == xs)) = true := by simp [hY]
      have HPz := HPy.out
      rw [if_neg (fun h => hY h.2)] at HPz
      replace HPz := hide HPz
      clear HPy hY
      refine wp_region_held_drew (S := fun w' => Below Z.heap.size Z w') (by kernel_rfl) ?_ (fun hHeld => ?_)
      · exact (Below.refl _ _).drew
      refine wpAnyH_take (i := 0) (oi := { dst := some 67, op := _, type := _, pos := _, after := _, guard := _ }) (v := ?v23x1) rfl (by kernel_rfl) (by kernel_rfl) (by kernel_rfl) (fun _ _ _ h => h) (Or.inl ⟨by rfl, ?hy23x1⟩) hHeld ?rest23x1
      case hy23x1 => (intro w hSw; go_simp <;> with_reducible rfl)
      try simp only [Act.put, List.setIfInBounds_toArray, List.set_cons_zero, List.set_cons_succ]
      refine wpAnyH_take (i := 1) (oi := { dst := some 68, op := _, type := _, pos := _, after := _, guard := _ }) (v := ?v23x2) rfl (by kernel_rfl) (by kernel_rfl) (by kernel_rfl) (fun _ _ _ h => h) (Or.inl ⟨by rfl, ?hy23x2⟩) hHeld ?rest23x2
      case hy23x2 => (intro w hSw; go_simp <;> with_reducible rfl)
      try simp only [Act.put, List.setIfInBounds_toArray, List.set_cons_zero, List.set_cons_succ]
      refine wpAnyH_ready (rs := [2]) (by kernel_rfl) (by simp) (AllReadyH.cons (o := { dst := some 69, op := _, type := _, pos := _, after := _, guard := _ }) rfl (fun K hK => ?_) AllReadyH.nil)
      go_simp
      refine (HAz.out _ (RZ.out.keep hHeld)).mono ?_
      rintro e w7 ⟨rfl, b7⟩
      have s7 := below_on hHeld b7
      go_wp2_with fail
      refine hK.out _ _ ?_ (fun hHeld => ?_)
      · exact s7
      clear hK K
      try simp only [Act.put, List.setIfInBounds_toArray, List.set_cons_zero, List.set_cons_succ]
      refine wpAnyH_take (i := 3) (oi := { dst := some 70, op := _, type := _, pos := _, after := _, guard := _ }) (v := ?v23x4) rfl (by kernel_rfl) (by kernel_rfl) (by kernel_rfl) (fun _ _ _ h => h) (Or.inl ⟨by rfl, ?hy23x4⟩) hHeld ?rest23x4
      case hy23x4 => (intro w hSw; go_simp <;> with_reducible rfl)
      try simp only [Act.put, List.setIfInBounds_toArray, List.set_cons_zero, List.set_cons_succ]
      refine wpAnyH_take (i := 4) (oi := { dst := some 71, op := _, type := _, pos := _, after := _, guard := _ }) (v := ?v23x5) rfl (by kernel_rfl) (by kernel_rfl) (by kernel_rfl) (fun _ _ _ h => h) (Or.inl ⟨by rfl, ?hy23x5⟩) hHeld ?rest23x5
      case hy23x5 => (intro w hSw; go_simp <;> with_reducible rfl)
      try simp only [Act.put, List.setIfInBounds_toArray, List.set_cons_zero, List.set_cons_succ]
      refine wpAnyH_take (i := 5) (oi := { dst := some 72, op := _, type := _, pos := _, after := _, guard := _ }) (v := ?v23x6) rfl (by kernel_rfl) (by kernel_rfl) (by kernel_rfl) (fun _ _ _ h => h) (Or.inl ⟨by rfl, ?hy23x6⟩) hHeld ?rest23x6
      case hy23x6 => (intro w hSw; go_simp <;> with_reducible rfl)
      try simp only [Act.put, List.setIfInBounds_toArray, List.set_cons_zero, List.set_cons_succ]
      refine wpAnyH_take (i := 6) (oi := { dst := some 73, op := _, type := _, pos := _, after := _, guard := _ }) (v := ?v23x7) rfl (by kernel_rfl) (by kernel_rfl) (by kernel_rfl) (fun _ _ _ h => h) (Or.inl ⟨by rfl, ?hy23x7⟩) hHeld ?rest23x7
      case hy23x7 => (intro w hSw; go_simp <;> with_reducible rfl)
      try simp only [Act.put, List.setIfInBounds_toArray, List.set_cons_zero, List.set_cons_succ]
      refine wpAnyH_take (i := 9) (oi := { dst := some 76, op := _, type := _, pos := _, after := _, guard := _ }) (v := ?v23x8) rfl (by kernel_rfl) (by kernel_rfl) (by kernel_rfl) (fun _ _ _ h => h) (Or.inl ⟨by rfl, ?hy23x8⟩) hHeld ?rest23x8
      case hy23x8 => (intro w hSw; go_simp <;> with_reducible rfl)
      try simp only [Act.put, List.setIfInBounds_toArray, List.set_cons_zero, List.set_cons_succ]
      refine wpAnyH_take (i := 10) (oi := { dst := some 77, op := _, type := _, pos := _, after := _, guard := _ }) (v := ?v23x9) rfl (by kernel_rfl) (by kernel_rfl) (by kernel_rfl) (fun _ _ _ h => h) (Or.inl ⟨by rfl, ?hy23x9⟩) hHeld ?rest23x9
      case hy23x9 => (intro w hSw; go_simp <;> with_reducible rfl)
      try simp only [Act.put, List.setIfInBounds_toArray, List.set_cons_zero, List.set_cons_succ]
      refine wpAnyH_ready (rs := [7]) (by kernel_rfl) (by simp) (AllReadyH.cons (o := { dst := some 74, op := _, type := _, pos := _, after := _, guard := _ }) rfl (fun K hK => ?_) AllReadyH.nil)
      go_simp
      refine (HLz.out _ (below_on BZ.out s7) (RZ.out.keep s7)).mono ?_
      rintro e w8 ⟨E, kE, rfl, lE, rE, b8⟩
      have s8 := below_on s7 b8
      have hsE := strOn rE
      have hsB8 := strOn (H2.out.keep (below_on BZ.out s8))
      go_wp2_with fail
      refine hK.out _ _ ?_ (fun hHeld => ?_)
      · exact below_on hHeld b8
      clear hK K
      try simp only [Act.put, List.setIfInBounds_toArray, List.set_cons_zero, List.set_cons_succ]
      refine wpAnyH_strong (S' := fun w' => Below w8.heap.size w8 w') (by intro w' h; exact below_on hHeld h) ?_
      replace hHeld : (fun w' => Below w8.heap.size w8 w') _ := Below.refl _ _
      refine wpAnyH_take (i := 8) (oi := { dst := some 75, op := _, type := _, pos := _, after := _, guard := _ }) (v := ?v23x11) rfl (by kernel_rfl) (by kernel_rfl) (by kernel_rfl) (fun _ _ _ h => h) (Or.inl ⟨by rfl, ?hy23x11⟩) hHeld ?rest23x11
      case hy23x11 => (intro w hSw; go_simp <;> with_reducible rfl)
      try simp only [Act.put, List.setIfInBounds_toArray, List.set_cons_zero, List.set_cons_succ]
      refine wpAnyH_take (i := 11) (oi := { dst := some 78, op := _, type := _, pos := _, after := _, guard := _ }) (v := ?v23x12) rfl (by kernel_rfl) (by kernel_rfl) (by kernel_rfl) (fun _ _ _ h => h) (Or.inl ⟨by rfl, ?hy23x12⟩) hHeld ?rest23x12
      case hy23x12 => (intro w hSw; go_simp <;> with_reducible rfl)
      try simp only [Act.put, List.setIfInBounds_toArray, List.set_cons_zero, List.set_cons_succ]
      refine wpAnyH_take (i := 12) (oi := { dst := some 79, op := _, type := _, pos := _, after := _, guard := _ }) (v := ?v23x13) rfl (by kernel_rfl) (by kernel_rfl) (by kernel_rfl) (fun _ _ _ h => h) (Or.inl ⟨by rfl, ?hy23x13⟩) hHeld ?rest23x13
      case hy23x13 => (intro w hSw; go_simp <;> with_reducible rfl)
      try simp only [Act.put, List.setIfInBounds_toArray, List.set_cons_zero, List.set_cons_succ]
      refine wpAnyH_done (by kernel_rfl) ?_ _
      clear hsE hsB hsB8 rE
      have j8 := JZ.out.keep s8
      have g8 := GZ.out.keep s8
      clear c0 c1 c2 c3 c4 c5 c6 d0 d1
      obtain ⟨j0, j1⟩ := j8.two
      obtain ⟨i0, i1⟩ := g8.two
      have jf := j8.frozen
      have J8 := hide j8
      have B8 := hide (below_on BZ.out s8)
      have R8 := hide (RZ.out.keep s8)
      clear j8 g8 hHeld
      clear s7 b7 s8 b8
      go_wp2_with fail
      (try simp only [Exit.inBlock, Exit.then])
      refine bodyPost_ret (results_cell_tmp rfl rfl (J8.out.set2 _ _) Try.underlying61 rfl (by kernel_rfl)) rfl ?_
      rw [HPz.out]
      exact ⟨none, 0, 0, rfl, Nat.le_refl _, Rd.nil _ _, below_set2 B8.out (Nat.le_succ _) _ _⟩

end Go.Proofs.Ytfpfijggmfeejaa
