/-
  What is proved here: what pdu's guessAnswer and AnswerParse return.
-/
import Derived.Test.YtfpfijggmfeejaaPdu15
namespace Go.Proofs.Ytfpfijggmfeejaa
set_option linter.unusedVariables false
set_option linter.unusedSimpArgs false
open Go.RowKit

theorem guessAns_1 (a c t an o x : Int) (A : Option Addr) (b o' n k l d : Nat) (xs : List UInt8) (w : World) (h : Rd w (some ⟨b, o', none⟩) l (bv xs)) (x0 : w.cell? ⟨b, o', none⟩ = some (.int .u8 x)) (hx0 : 0 ≤ x) (hx1 : x ≤ 255) (hd : l ≤ d) (hl0 : 0 < l) (hl : l ≤ 253) (hc : 0 ≤ c) (hc' : c ≤ 2000) (hno : ¬ l = 2 ∨ ¬ x = 1 + 128) :
    Calls Try.prog 51 #[.agg #[.int .i64 1, .int .i64 a, .int .i64 c, .slice A n k, .int .i64 t, .int .i64 an, .int .i64 o], .slice (some ⟨b, o', none⟩) l d] w (RetAn ⟨bitsL (xs.drop 2) c.toNat, 0⟩ w) := by
  have hbl : b < w.heap.size := block_lt_of_cell x0
  have q0 : (0 : Int) < (l : Int) := by omega
  have X0 := hide x0
  have H0 := hide h
  have HU := hide (fun W (hr : Rd W (some ⟨b, o', none⟩) l (bv xs)) => unpacked_any (some ⟨b, o', none⟩) l d 2 c.toNat 2 c rfl (by omega) xs W hr hd (by omega) (by omega) (by omega))
  generalize bitsL (xs.drop 2) c.toNat = us at *
  clear x0 h
  by_cases hl2 : l = 2
  · subst hl2
    have hx := hno.resolve_left (fun h => h rfl)
    have q : ((x : Int) == 1 + 128) = false := ne_beq hx
    clear hno hx
    go_enter Try.func51, Try.ntmps51
    go_wp2_with fail
    generalize hW : (w.alloc (.cells #[.int .i64 1, .int .i64 a, .int .i64 c, .slice A n k, .int .i64 t, .int .i64 an, .int .i64 o] 37)).alloc (.cells #[.slice none 0 0, .int .i64 0] 61) = W
    obtain ⟨hB1, hB2, hBel, hsz⟩ := two_boxes w [.int .i64 1, .int .i64 a, .int .i64 c, .slice A n k, .int .i64 t, .int .i64 an, .int .i64 o] [.slice none 0 0, .int .i64 0] 37 61 W hW.symm
    clear hW
    have hwW : w.heap.size < W.heap.size := by omega
    have hwW1 : w.heap.size + 1 < W.heap.size := by omega
    have x0 := (hBel.cell (p := ⟨b, o', none⟩) hbl).trans X0.out
    obtain ⟨k0, k1, k2, k3, k4, k5, k6⟩ := hB1.seven
    obtain ⟨j0, j1⟩ := hB2.two
    have jf := hB2.frozen
    have B1 := hide hB1
    have B2 := hide hB2
    have BL := hide hBel
    clear hB1 hB2 hBel hsz
    go_quiet (fail)
    go_wp2_with fail
    refine (HU.out _ (H0.out.keep (below_drewN BL.out nq))).mono ?_
    rintro e U2 ⟨C, kC, rfl, lC, rC, b2, nC⟩
    have kZ : Blk (W.drewN nq) (w.heap.size + 1) 61 _ := B2.out
    have kU := kZ.keep b2
    have bU := below_on (below_drewN BL.out nq) b2
    have KU := hide kU
    have BU := hide bU
    have RC := hide rC
    have NC : Hid (∀ b o, C = some ⟨b, o, none⟩ → b ≠ w.heap.size + 1 ∧ w.heap.size ≤ b) := fun b o e => by have h : W.heap.size ≤ b := nC b o e; omega
    clear k0 k1 k2 k3 k4 k5 k6 j0 j1 jf
    obtain ⟨j0, j1⟩ := kU.two
    have jf := kU.frozen
    clear kU bU rC nC b2 kZ
    go_wp2_with fail
    (try simp only [Exit.inBlock, Exit.then])
    refine bodyPost_ret (results_cell rfl rfl (KU.out.set2 _ _) Try.underlying61 rfl (by kernel_rfl)) rfl ?_
    exact ⟨C, _, kC, rfl, lC, RC.out.set2 (fun b o e => (NC.out b o e).1) _ _, below_set2 BU.out (Nat.le_succ _) _ _, fun b o e => (NC.out b o e).2⟩
  · have q : ((l : Int) == 2) = false := ne_beq (by omega)
    clear hno hl2
    go_enter Try.func51, Try.ntmps51
    go_wp2_with fail
    generalize hW : (w.alloc (.cells #[.int .i64 1, .int .i64 a, .int .i64 c, .slice A n k, .int .i64 t, .int .i64 an, .int .i64 o] 37)).alloc (.cells #[.slice none 0 0, .int .i64 0] 61) = W
    obtain ⟨hB1, hB2, hBel, hsz⟩ := two_boxes w [.int .i64 1, .int .i64 a, .int .i64 c, .slice A n k, .int .i64 t, .int .i64 an, .int .i64 o] [.slice none 0 0, .int .i64 0] 37 61 W hW.symm
    clear hW
    have hwW : w.heap.size < W.heap.size := by omega
    have hwW1 : w.heap.size + 1 < W.heap.size := by omega
    have x0 := (hBel.cell (p := ⟨b, o', none⟩) hbl).trans X0.out
    obtain ⟨k0, k1, k2, k3, k4, k5, k6⟩ := hB1.seven
    obtain ⟨j0, j1⟩ := hB2.two
    have jf := hB2.frozen
    have B1 := hide hB1
    have B2 := hide hB2
    have BL := hide hBel
    clear hB1 hB2 hBel hsz
    go_quiet (fail)
    go_wp2_with fail
    refine (HU.out _ (H0.out.keep (below_drewN BL.out nq))).mono ?_
    rintro e U2 ⟨C, kC, rfl, lC, rC, b2, nC⟩
    have kZ : Blk (W.drewN nq) (w.heap.size + 1) 61 _ := B2.out
    have kU := kZ.keep b2
    have bU := below_on (below_drewN BL.out nq) b2
    have KU := hide kU
    have BU := hide bU
    have RC := hide rC
    have NC : Hid (∀ b o, C = some ⟨b, o, none⟩ → b ≠ w.heap.size + 1 ∧ w.heap.size ≤ b) := fun b o e => by have h : W.heap.size ≤ b := nC b o e; omega
    clear k0 k1 k2 k3 k4 k5 k6 j0 j1 jf
    obtain ⟨j0, j1⟩ := kU.two
    have jf := kU.frozen
    clear kU bU rC nC b2 kZ
    go_wp2_with fail
    (try simp only [Exit.inBlock, Exit.then])
    refine bodyPost_ret (results_cell rfl rfl (KU.out.set2 _ _) Try.underlying61 rfl (by kernel_rfl)) rfl ?_
    exact ⟨C, _, kC, rfl, lC, RC.out.set2 (fun b o e => (NC.out b o e).1) _ _, below_set2 BU.out (Nat.le_succ _) _ _, fun b o e => (NC.out b o e).2⟩
theorem guessAns_2 (a c t an o x : Int) (A : Option Addr) (b o' n k l d : Nat) (xs : List UInt8) (w : World) (h : Rd w (some ⟨b, o', none⟩) l (bv xs)) (x0 : w.cell? ⟨b, o', none⟩ = some (.int .u8 x)) (hx0 : 0 ≤ x) (hx1 : x ≤ 255) (hd : l ≤ d) (hl0 : 0 < l) (hl : l ≤ 253) (hc : 0 ≤ c) (hc' : c ≤ 2000) (hno : ¬ l = 2 ∨ ¬ x = 2 + 128) :
    Calls Try.prog 51 #[.agg #[.int .i64 2, .int .i64 a, .int .i64 c, .slice A n k, .int .i64 t, .int .i64 an, .int .i64 o], .slice (some ⟨b, o', none⟩) l d] w (RetAn ⟨bitsL (xs.drop 2) c.toNat, 0⟩ w) := by
  have hbl : b < w.heap.size := block_lt_of_cell x0
  have q0 : (0 : Int) < (l : Int) := by omega
  have X0 := hide x0
  have H0 := hide h
  have HU := hide (fun W (hr : Rd W (some ⟨b, o', none⟩) l (bv xs)) => unpacked_any (some ⟨b, o', none⟩) l d 2 c.toNat 2 c rfl (by omega) xs W hr hd (by omega) (by omega) (by omega))
  generalize bitsL (xs.drop 2) c.toNat = us at *
  clear x0 h
  by_cases hl2 : l = 2
  · subst hl2
    have hx := hno.resolve_left (fun h => h rfl)
    have q : ((x : Int) == 2 + 128) = false := ne_beq hx
    clear hno hx
    go_enter Try.func51, Try.ntmps51
    go_wp2_with fail
    generalize hW : (w.alloc (.cells #[.int .i64 2, .int .i64 a, .int .i64 c, .slice A n k, .int .i64 t, .int .i64 an, .int .i64 o] 37)).alloc (.cells #[.slice none 0 0, .int .i64 0] 61) = W
    obtain ⟨hB1, hB2, hBel, hsz⟩ := two_boxes w [.int .i64 2, .int .i64 a, .int .i64 c, .slice A n k, .int .i64 t, .int .i64 an, .int .i64 o] [.slice none 0 0, .int .i64 0] 37 61 W hW.symm
    clear hW
    have hwW : w.heap.size < W.heap.size := by omega
    have hwW1 : w.heap.size + 1 < W.heap.size := by omega
    have x0 := (hBel.cell (p := ⟨b, o', none⟩) hbl).trans X0.out
    obtain ⟨k0, k1, k2, k3, k4, k5, k6⟩ := hB1.seven
    obtain ⟨j0, j1⟩ := hB2.two
    have jf := hB2.frozen
    have B1 := hide hB1
    have B2 := hide hB2
    have BL := hide hBel
    clear hB1 hB2 hBel hsz
    go_quiet (fail)
    go_wp2_with fail
    refine (HU.out _ (H0.out.keep (below_drewN BL.out nq))).mono ?_
    rintro e U2 ⟨C, kC, rfl, lC, rC, b2, nC⟩
    have kZ : Blk (W.drewN nq) (w.heap.size + 1) 61 _ := B2.out
    have kU := kZ.keep b2
    have bU := below_on (below_drewN BL.out nq) b2
    have KU := hide kU
    have BU := hide bU
    have RC := hide rC
    have NC : Hid (∀ b o, C = some ⟨b, o, none⟩ → b ≠ w.heap.size + 1 ∧ w.heap.size ≤ b) := fun b o e => by have h : W.heap.size ≤ b := nC b o e; omega
    clear k0 k1 k2 k3 k4 k5 k6 j0 j1 jf
    obtain ⟨j0, j1⟩ := kU.two
    have jf := kU.frozen
    clear kU bU rC nC b2 kZ
    go_wp2_with fail
    (try simp only [Exit.inBlock, Exit.then])
    refine bodyPost_ret (results_cell rfl rfl (KU.out.set2 _ _) Try.underlying61 rfl (by kernel_rfl)) rfl ?_
    exact ⟨C, _, kC, rfl, lC, RC.out.set2 (fun b o e => (NC.out b o e).1) _ _, below_set2 BU.out (Nat.le_succ _) _ _, fun b o e => (NC.out b o e).2⟩
  · have q : ((l : Int) == 2) = false := ne_beq (by omega)
    clear hno hl2
    go_enter Try.func51, Try.ntmps51
    go_wp2_with fail
    generalize hW : (w.alloc (.cells #[.int .i64 2, .int .i64 a, .int .i64 c, .slice A n k, .int .i64 t, .int .i64 an, .int .i64 o] 37)).alloc (.cells #[.slice none 0 0, .int .i64 0] 61) = W
    obtain ⟨hB1, hB2, hBel, hsz⟩ := two_boxes w [.int .i64 2, .int .i64 a, .int .i64 c, .slice A n k, .int .i64 t, .int .i64 an, .int .i64 o] [.slice none 0 0, .int .i64 0] 37 61 W hW.symm
    clear hW
    have hwW : w.heap.size < W.heap.size := by omega
    have hwW1 : w.heap.size + 1 < W.heap.size := by omega
    have x0 := (hBel.cell (p := ⟨b, o', none⟩) hbl).trans X0.out
    obtain ⟨k0, k1, k2, k3, k4, k5, k6⟩ := hB1.seven
    obtain ⟨j0, j1⟩ := hB2.two
    have jf := hB2.frozen
    have B1 := hide hB1
    have B2 := hide hB2
    have BL := hide hBel
    clear hB1 hB2 hBel hsz
    go_quiet (fail)
    go_wp2_with fail
    refine (HU.out _ (H0.out.keep (below_drewN BL.out nq))).mono ?_
    rintro e U2 ⟨C, kC, rfl, lC, rC, b2, nC⟩
    have kZ : Blk (W.drewN nq) (w.heap.size + 1) 61 _ := B2.out
    have kU := kZ.keep b2
    have bU := below_on (below_drewN BL.out nq) b2
    have KU := hide kU
    have BU := hide bU
    have RC := hide rC
    have NC : Hid (∀ b o, C = some ⟨b, o, none⟩ → b ≠ w.heap.size + 1 ∧ w.heap.size ≤ b) := fun b o e => by have h : W.heap.size ≤ b := nC b o e; omega
    clear k0 k1 k2 k3 k4 k5 k6 j0 j1 jf
    obtain ⟨j0, j1⟩ := kU.two
    have jf := kU.frozen
    clear kU bU rC nC b2 kZ
    go_wp2_with fail
    (try simp only [Exit.inBlock, Exit.then])
    refine bodyPost_ret (results_cell rfl rfl (KU.out.set2 _ _) Try.underlying61 rfl (by kernel_rfl)) rfl ?_
    exact ⟨C, _, kC, rfl, lC, RC.out.set2 (fun b o e => (NC.out b o e).1) _ _, below_set2 BU.out (Nat.le_succ _) _ _, fun b o e => (NC.out b o e).2⟩

theorem guessAns_3 (a c t an o x : Int) (A : Option Addr) (b o' n k l d : Nat) (xs : List UInt8) (w : World) (h : Rd w (some ⟨b, o', none⟩) l (bv xs)) (x0 : w.cell? ⟨b, o', none⟩ = some (.int .u8 x)) (hx0 : 0 ≤ x) (hx1 : x ≤ 255) (hd : l ≤ d) (hl0 : 0 < l) (hl : l ≤ 253) (hno : ¬ l = 2 ∨ ¬ x = 3 + 128) :
    Calls Try.prog 51 #[.agg #[.int .i64 3, .int .i64 a, .int .i64 c, .slice A n k, .int .i64 t, .int .i64 an, .int .i64 o], .slice (some ⟨b, o', none⟩) l d] w (RetAn ⟨wordsL (xs.drop 2), 0⟩ w) := by
  have hbl : b < w.heap.size := block_lt_of_cell x0
  have q0 : (0 : Int) < (l : Int) := by omega
  have X0 := hide x0
  have H0 := hide h
  have HU := hide (fun W (hr : Rd W (some ⟨b, o', none⟩) l (bv xs)) => (wordsFrom_any (some ⟨b, o', none⟩) l d 2 2 rfl xs W hr (by omega) (by omega) ((l - 2) / 2) rfl).mono fun _ _ h => h.new)
  generalize wordsL (xs.drop 2) = us at *
  generalize hmm : (l - 2) / 2 = mm at *
  clear x0 h hmm
  by_cases hl2 : l = 2
  · subst hl2
    have hx := hno.resolve_left (fun h => h rfl)
    have q : ((x : Int) == 3 + 128) = false := ne_beq hx
    clear hno hx
    go_enter Try.func51, Try.ntmps51
    go_wp2_with fail
    generalize hW : (w.alloc (.cells #[.int .i64 3, .int .i64 a, .int .i64 c, .slice A n k, .int .i64 t, .int .i64 an, .int .i64 o] 37)).alloc (.cells #[.slice none 0 0, .int .i64 0] 61) = W
    obtain ⟨hB1, hB2, hBel, hsz⟩ := two_boxes w [.int .i64 3, .int .i64 a, .int .i64 c, .slice A n k, .int .i64 t, .int .i64 an, .int .i64 o] [.slice none 0 0, .int .i64 0] 37 61 W hW.symm
    clear hW
    have hwW : w.heap.size < W.heap.size := by omega
    have hwW1 : w.heap.size + 1 < W.heap.size := by omega
    have x0 := (hBel.cell (p := ⟨b, o', none⟩) hbl).trans X0.out
    obtain ⟨k0, k1, k2, k3, k4, k5, k6⟩ := hB1.seven
    obtain ⟨j0, j1⟩ := hB2.two
    have jf := hB2.frozen
    have B1 := hide hB1
    have B2 := hide hB2
    have BL := hide hBel
    clear hB1 hB2 hBel hsz
    go_quiet (fail)
    go_wp2_with fail
    refine (HU.out _ (H0.out.keep (below_drewN BL.out nq))).mono ?_
    rintro e U2 ⟨C, kC, rfl, lC, rC, b2, nC⟩
    have kZ : Blk (W.drewN nq) (w.heap.size + 1) 61 _ := B2.out
    have kU := kZ.keep b2
    have bU := below_on (below_drewN BL.out nq) b2
    have KU := hide kU
    have BU := hide bU
    have RC := hide rC
    have NC : Hid (∀ b o, C = some ⟨b, o, none⟩ → b ≠ w.heap.size + 1 ∧ w.heap.size ≤ b) := fun b o e => by have h : W.heap.size ≤ b := nC b o e; omega
    clear k0 k1 k2 k3 k4 k5 k6 j0 j1 jf
    obtain ⟨j0, j1⟩ := kU.two
    have jf := kU.frozen
    clear kU bU rC nC b2 kZ
    go_wp2_with fail
    (try simp only [Exit.inBlock, Exit.then])
    refine bodyPost_ret (results_cell rfl rfl (KU.out.set2 _ _) Try.underlying61 rfl (by kernel_rfl)) rfl ?_
    exact ⟨C, _, kC, rfl, lC, RC.out.set2 (fun b o e => (NC.out b o e).1) _ _, below_set2 BU.out (Nat.le_succ _) _ _, fun b o e => (NC.out b o e).2⟩
  · have q : ((l : Int) == 2) = false := ne_beq (by omega)
    clear hno hl2
    go_enter Try.func51, Try.ntmps51
    go_wp2_with fail
    generalize hW : (w.alloc (.cells #[.int .i64 3, .int .i64 a, .int .i64 c, .slice A n k, .int .i64 t, .int .i64 an, .int .i64 o] 37)).alloc (.cells #[.slice none 0 0, .int .i64 0] 61) = W
    obtain ⟨hB1, hB2, hBel, hsz⟩ := two_boxes w [.int .i64 3, .int .i64 a, .int .i64 c, .slice A n k, .int .i64 t, .int .i64 an, .int .i64 o] [.slice none 0 0, .int .i64 0] 37 61 W hW.symm
    clear hW
    have hwW : w.heap.size < W.heap.size := by omega
    have hwW1 : w.heap.size + 1 < W.heap.size := by omega
    have x0 := (hBel.cell (p := ⟨b, o', none⟩) hbl).trans X0.out
    obtain ⟨k0, k1, k2, k3, k4, k5, k6⟩ := hB1.seven
    obtain ⟨j0, j1⟩ := hB2.two
    have jf := hB2.frozen
    have B1 := hide hB1
    have B2 := hide hB2
    have BL := hide hBel
    clear hB1 hB2 hBel hsz
    go_quiet (fail)
    go_wp2_with fail
    refine (HU.out _ (H0.out.keep (below_drewN BL.out nq))).mono ?_
    rintro e U2 ⟨C, kC, rfl, lC, rC, b2, nC⟩
    have kZ : Blk (W.drewN nq) (w.heap.size + 1) 61 _ := B2.out
    have kU := kZ.keep b2
    have bU := below_on (below_drewN BL.out nq) b2
    have KU := hide kU
    have BU := hide bU
    have RC := hide rC
    have NC : Hid (∀ b o, C = some ⟨b, o, none⟩ → b ≠ w.heap.size + 1 ∧ w.heap.size ≤ b) := fun b o e => by have h : W.heap.size ≤ b := nC b o e; omega
    clear k0 k1 k2 k3 k4 k5 k6 j0 j1 jf
    obtain ⟨j0, j1⟩ := kU.two
    have jf := kU.frozen
    clear kU bU rC nC b2 kZ
    go_wp2_with fail
    (try simp only [Exit.inBlock, Exit.then])
    refine bodyPost_ret (results_cell rfl rfl (KU.out.set2 _ _) Try.underlying61 rfl (by kernel_rfl)) rfl ?_
    exact ⟨C, _, kC, rfl, lC, RC.out.set2 (fun b o e => (NC.out b o e).1) _ _, below_set2 BU.out (Nat.le_succ _) _ _, fun b o e => (NC.out b o e).2⟩
theorem guessAns_4 (a c t an o x : Int) (A : Option Addr) (b o' n k l d : Nat) (xs : List UInt8) (w : World) (h : Rd w (some ⟨b, o', none⟩) l (bv xs)) (x0 : w.cell? ⟨b, o', none⟩ = some (.int .u8 x)) (hx0 : 0 ≤ x) (hx1 : x ≤ 255) (hd : l ≤ d) (hl0 : 0 < l) (hl : l ≤ 253) (hno : ¬ l = 2 ∨ ¬ x = 4 + 128) :
    Calls Try.prog 51 #[.agg #[.int .i64 4, .int .i64 a, .int .i64 c, .slice A n k, .int .i64 t, .int .i64 an, .int .i64 o], .slice (some ⟨b, o', none⟩) l d] w (RetAn ⟨wordsL (xs.drop 2), 0⟩ w) := by
  have hbl : b < w.heap.size := block_lt_of_cell x0
  have q0 : (0 : Int) < (l : Int) := by omega
  have X0 := hide x0
  have H0 := hide h
  have HU := hide (fun W (hr : Rd W (some ⟨b, o', none⟩) l (bv xs)) => (wordsFrom_any (some ⟨b, o', none⟩) l d 2 2 rfl xs W hr (by omega) (by omega) ((l - 2) / 2) rfl).mono fun _ _ h => h.new)
  generalize wordsL (xs.drop 2) = us at *
  generalize hmm : (l - 2) / 2 = mm at *
  clear x0 h hmm
  by_cases hl2 : l = 2
  · subst hl2
    have hx := hno.resolve_left (fun h => h rfl)
    have q : ((x : Int) == 4 + 128) = false := ne_beq hx
    clear hno hx
    go_enter Try.func51, Try.ntmps51
    go_wp2_with fail
    generalize hW : (w.alloc (.cells #[.int .i64 4, .int .i64 a, .int .i64 c, .slice A n k, .int .i64 t, .int .i64 an, .int .i64 o] 37)).alloc (.cells #[.slice none 0 0, .int .i64 0] 61) = W
    obtain ⟨hB1, hB2, hBel, hsz⟩ := two_boxes w [.int .i64 4, .int .i64 a, .int .i64 c, .slice A n k, .int .i64 t, .int .i64 an, .int .i64 o] [.slice none 0 0, .int .i64 0] 37 61 W hW.symm
    clear hW
    have hwW : w.heap.size < W.heap.size := by omega
    have hwW1 : w.heap.size + 1 < W.heap.size := by omega
    have x0 := (hBel.cell (p := ⟨b, o', none⟩) hbl).trans X0.out
    obtain ⟨k0, k1, k2, k3, k4, k5, k6⟩ := hB1.seven
    obtain ⟨j0, j1⟩ := hB2.two
    have jf := hB2.frozen
    have B1 := hide hB1
    have B2 := hide hB2
    have BL := hide hBel
    clear hB1 hB2 hBel hsz
    go_quiet (fail)
    go_wp2_with fail
    refine (HU.out _ (H0.out.keep (below_drewN BL.out nq))).mono ?_
    rintro e U2 ⟨C, kC, rfl, lC, rC, b2, nC⟩
    have kZ : Blk (W.drewN nq) (w.heap.size + 1) 61 _ := B2.out
    have kU := kZ.keep b2
    have bU := below_on (below_drewN BL.out nq) b2
    have KU := hide kU
    have BU := hide bU
    have RC := hide rC
    have NC : Hid (∀ b o, C = some ⟨b, o, none⟩ → b ≠ w.heap.size + 1 ∧ w.heap.size ≤ b) := fun b o e => by have h : W.heap.size ≤ b := nC b o e; omega
    clear k0 k1 k2 k3 k4 k5 k6 j0 j1 jf
    obtain ⟨j0, j1⟩ := kU.two
    have jf := kU.frozen
    clear kU bU rC nC b2 kZ
    go_wp2_with fail
    (try simp only [Exit.inBlock, Exit.then])
    refine bodyPost_ret (results_cell rfl rfl (KU.out.set2 _ _) Try.underlying61 rfl (by kernel_rfl)) rfl ?_
    exact ⟨C, _, kC, rfl, lC, RC.out.set2 (fun b o e => (NC.out b o e).1) _ _, below_set2 BU.out (Nat.le_succ _) _ _, fun b o e => (NC.out b o e).2⟩
  · have q : ((l : Int) == 2) = false := ne_beq (by omega)
    clear hno hl2
    go_enter Try.func51, Try.ntmps51
    go_wp2_with fail
    generalize hW : (w.alloc (.cells #[.int .i64 4, .int .i64 a, .int .i64 c, .slice A n k, .int .i64 t, .int .i64 an, .int .i64 o] 37)).alloc (.cells #[.slice none 0 0, .int .i64 0] 61) = W
    obtain ⟨hB1, hB2, hBel, hsz⟩ := two_boxes w [.int .i64 4, .int .i64 a, .int .i64 c, .slice A n k, .int .i64 t, .int .i64 an, .int .i64 o] [.slice none 0 0, .int .i64 0] 37 61 W hW.symm
    clear hW
    have hwW : w.heap.size < W.heap.size := by omega
    have hwW1 : w.heap.size + 1 < W.heap.size := by omega
    have x0 := (hBel.cell (p := ⟨b, o', none⟩) hbl).trans X0.out
    obtain ⟨k0, k1, k2, k3, k4, k5, k6⟩ := hB1.seven
    obtain ⟨j0, j1⟩ := hB2.two
    have jf := hB2.frozen
    have B1 := hide hB1
    have B2 := hide hB2
    have BL := hide hBel
    clear hB1 hB2 hBel hsz
    go_quiet (fail)
    go_wp2_with fail
    refine (HU.out _ (H0.out.keep (below_drewN BL.out nq))).mono ?_
    rintro e U2 ⟨C, kC, rfl, lC, rC, b2, nC⟩
    have kZ : Blk (W.drewN nq) (w.heap.size + 1) 61 _ := B2.out
    have kU := kZ.keep b2
    have bU := below_on (below_drewN BL.out nq) b2
    have KU := hide kU
    have BU := hide bU
    have RC := hide rC
    have NC : Hid (∀ b o, C = some ⟨b, o, none⟩ → b ≠ w.heap.size + 1 ∧ w.heap.size ≤ b) := fun b o e => by have h : W.heap.size ≤ b := nC b o e; omega
    clear k0 k1 k2 k3 k4 k5 k6 j0 j1 jf
    obtain ⟨j0, j1⟩ := kU.two
    have jf := kU.frozen
    clear kU bU rC nC b2 kZ
    go_wp2_with fail
    (try simp only [Exit.inBlock, Exit.then])
    refine bodyPost_ret (results_cell rfl rfl (KU.out.set2 _ _) Try.underlying61 rfl (by kernel_rfl)) rfl ?_
    exact ⟨C, _, kC, rfl, lC, RC.out.set2 (fun b o e => (NC.out b o e).1) _ _, below_set2 BU.out (Nat.le_succ _) _ _, fun b o e => (NC.out b o e).2⟩
theorem guessAns_23 (a c t an o x : Int) (A : Option Addr) (b o' n k l d : Nat) (xs : List UInt8) (w : World) (h : Rd w (some ⟨b, o', none⟩) l (bv xs)) (x0 : w.cell? ⟨b, o', none⟩ = some (.int .u8 x)) (hx0 : 0 ≤ x) (hx1 : x ≤ 255) (hd : l ≤ d) (hl0 : 0 < l) (hl : l ≤ 253) (hno : ¬ l = 2 ∨ ¬ x = 23 + 128) :
    Calls Try.prog 51 #[.agg #[.int .i64 23, .int .i64 a, .int .i64 c, .slice A n k, .int .i64 t, .int .i64 an, .int .i64 o], .slice (some ⟨b, o', none⟩) l d] w (RetAn ⟨wordsL (xs.drop 2), 0⟩ w) := by
  have hbl : b < w.heap.size := block_lt_of_cell x0
  have q0 : (0 : Int) < (l : Int) := by omega
  have X0 := hide x0
  have H0 := hide h
  have HU := hide (fun W (hr : Rd W (some ⟨b, o', none⟩) l (bv xs)) => (wordsFrom_any (some ⟨b, o', none⟩) l d 2 2 rfl xs W hr (by omega) (by omega) ((l - 2) / 2) rfl).mono fun _ _ h => h.new)
  generalize wordsL (xs.drop 2) = us at *
  generalize hmm : (l - 2) / 2 = mm at *
  clear x0 h hmm
  by_cases hl2 : l = 2
  · subst hl2
    have hx := hno.resolve_left (fun h => h rfl)
    have q : ((x : Int) == 23 + 128) = false := ne_beq hx
    clear hno hx
    go_enter Try.func51, Try.ntmps51
    go_wp2_with fail
    generalize hW : (w.alloc (.cells #[.int .i64 23, .int .i64 a, .int .i64 c, .slice A n k, .int .i64 t, .int .i64 an, .int .i64 o] 37)).alloc (.cells #[.slice none 0 0, .int .i64 0] 61) = W
    obtain ⟨hB1, hB2, hBel, hsz⟩ := two_boxes w [.int .i64 23, .int .i64 a, .int .i64 c, .slice A n k, .int .i64 t, .int .i64 an, .int .i64 o] [.slice none 0 0, .int .i64 0] 37 61 W hW.symm
    clear hW
    have hwW : w.heap.size < W.heap.size := by omega
    have hwW1 : w.heap.size + 1 < W.heap.size := by omega
    have x0 := (hBel.cell (p := ⟨b, o', none⟩) hbl).trans X0.out
    obtain ⟨k0, k1, k2, k3, k4, k5, k6⟩ := hB1.seven
    obtain ⟨j0, j1⟩ := hB2.two
    have jf := hB2.frozen
    have B1 := hide hB1
    have B2 := hide hB2
    have BL := hide hBel
    clear hB1 hB2 hBel hsz
    go_quiet (fail)
    go_wp2_with fail
    refine (HU.out _ (H0.out.keep (below_drewN BL.out nq))).mono ?_
    rintro e U2 ⟨C, kC, rfl, lC, rC, b2, nC⟩
    have kZ : Blk (W.drewN nq) (w.heap.size + 1) 61 _ := B2.out
    have kU := kZ.keep b2
    have bU := below_on (below_drewN BL.out nq) b2
    have KU := hide kU
    have BU := hide bU
    have RC := hide rC
    have NC : Hid (∀ b o, C = some ⟨b, o, none⟩ → b ≠ w.heap.size + 1 ∧ w.heap.size ≤ b) := fun b o e => by have h : W.heap.size ≤ b := nC b o e; omega
    clear k0 k1 k2 k3 k4 k5 k6 j0 j1 jf
    obtain ⟨j0, j1⟩ := kU.two
    have jf := kU.frozen
    clear kU bU rC nC b2 kZ
    go_wp2_with fail
    (try simp only [Exit.inBlock, Exit.then])
    refine bodyPost_ret (results_cell rfl rfl (KU.out.set2 _ _) Try.underlying61 rfl (by kernel_rfl)) rfl ?_
    exact ⟨C, _, kC, rfl, lC, RC.out.set2 (fun b o e => (NC.out b o e).1) _ _, below_set2 BU.out (Nat.le_succ _) _ _, fun b o e => (NC.out b o e).2⟩
  · have q : ((l : Int) == 2) = false := ne_beq (by omega)
    clear hno hl2
    go_enter Try.func51, Try.ntmps51
    go_wp2_with fail
    generalize hW : (w.alloc (.cells #[.int .i64 23, .int .i64 a, .int .i64 c, .slice A n k, .int .i64 t, .int .i64 an, .int .i64 o] 37)).alloc (.cells #[.slice none 0 0, .int .i64 0] 61) = W
    obtain ⟨hB1, hB2, hBel, hsz⟩ := two_boxes w [.int .i64 23, .int .i64 a, .int .i64 c, .slice A n k, .int .i64 t, .int .i64 an, .int .i64 o] [.slice none 0 0, .int .i64 0] 37 61 W hW.symm
    clear hW
    have hwW : w.heap.size < W.heap.size := by omega
    have hwW1 : w.heap.size + 1 < W.heap.size := by omega
    have x0 := (hBel.cell (p := ⟨b, o', none⟩) hbl).trans X0.out
    obtain ⟨k0, k1, k2, k3, k4, k5, k6⟩ := hB1.seven
    obtain ⟨j0, j1⟩ := hB2.two
    have jf := hB2.frozen
    have B1 := hide hB1
    have B2 := hide hB2
    have BL := hide hBel
    clear hB1 hB2 hBel hsz
    go_quiet (fail)
    go_wp2_with fail
    refine (HU.out _ (H0.out.keep (below_drewN BL.out nq))).mono ?_
    rintro e U2 ⟨C, kC, rfl, lC, rC, b2, nC⟩
    have kZ : Blk (W.drewN nq) (w.heap.size + 1) 61 _ := B2.out
    have kU := kZ.keep b2
    have bU := below_on (below_drewN BL.out nq) b2
    have KU := hide kU
    have BU := hide bU
    have RC := hide rC
    have NC : Hid (∀ b o, C = some ⟨b, o, none⟩ → b ≠ w.heap.size + 1 ∧ w.heap.size ≤ b) := fun b o e => by have h : W.heap.size ≤ b := nC b o e; omega
    clear k0 k1 k2 k3 k4 k5 k6 j0 j1 jf
    obtain ⟨j0, j1⟩ := kU.two
    have jf := kU.frozen
    clear kU bU rC nC b2 kZ
    go_wp2_with fail
    (try simp only [Exit.inBlock, Exit.then])
    refine bodyPost_ret (results_cell rfl rfl (KU.out.set2 _ _) Try.underlying61 rfl (by kernel_rfl)) rfl ?_
    exact ⟨C, _, kC, rfl, lC, RC.out.set2 (fun b o e => (NC.out b o e).1) _ _, below_set2 BU.out (Nat.le_succ _) _ _, fun b o e => (NC.out b o e).2⟩

theorem guessAns_else (f a c t an o x : Int) (A : Option Addr) (b o' n k l d : Nat) (w : World) (x0 : w.cell? ⟨b, o', none⟩ = some (.int .u8 x)) (hx0 : 0 ≤ x) (hx1 : x ≤ 255) (hl0 : 0 < l) (hf : 1 ≤ f) (hf' : f ≤ 23) (hno : ¬ l = 2 ∨ ¬ x = f + 128)
    (f1 : (f == 1) = false) (f2 : (f == 2) = false) (f3 : (f == 3) = false) (f4 : (f == 4) = false) (f23 : (f == 23) = false) :
    Calls Try.prog 51 #[.agg #[.int .i64 f, .int .i64 a, .int .i64 c, .slice A n k, .int .i64 t, .int .i64 an, .int .i64 o], .slice (some ⟨b, o', none⟩) l d] w (RetAn An.none w) := by
  have hbl : b < w.heap.size := block_lt_of_cell x0
  have q0 : (0 : Int) < (l : Int) := by omega
  have X0 := hide x0
  clear x0
  by_cases hl2 : l = 2
  · subst hl2
    have hx := hno.resolve_left (fun h => h rfl)
    have q : ((x : Int) == f + 128) = false := ne_beq hx
    clear hno hx
    go_enter Try.func51, Try.ntmps51
    go_wp2_with fail
    generalize hW : (w.alloc (.cells #[.int .i64 f, .int .i64 a, .int .i64 c, .slice A n k, .int .i64 t, .int .i64 an, .int .i64 o] 37)).alloc (.cells #[.slice none 0 0, .int .i64 0] 61) = W
    obtain ⟨hB1, hB2, hBel, hsz⟩ := two_boxes w [.int .i64 f, .int .i64 a, .int .i64 c, .slice A n k, .int .i64 t, .int .i64 an, .int .i64 o] [.slice none 0 0, .int .i64 0] 37 61 W hW.symm
    clear hW
    have hwW : w.heap.size < W.heap.size := by omega
    have hwW1 : w.heap.size + 1 < W.heap.size := by omega
    have x0 := (hBel.cell (p := ⟨b, o', none⟩) hbl).trans X0.out
    obtain ⟨k0, k1, k2, k3, k4, k5, k6⟩ := hB1.seven
    obtain ⟨j0, j1⟩ := hB2.two
    have jf := hB2.frozen
    have B1 := hide hB1
    have B2 := hide hB2
    have BL := hide hBel
    clear hB1 hB2 hBel hsz
    go_quiet (fail)
    go_wp2_with fail
    (try simp only [Exit.inBlock, Exit.then])
    have kZ : Blk (W.drewN nq) (w.heap.size + 1) 61 _ := B2.out
    refine bodyPost_ret (results_cell rfl rfl (kZ.set2 _ _) Try.underlying61 rfl (by kernel_rfl)) rfl ?_
    exact ⟨none, 0, 0, rfl, Nat.le_refl _, Rd.nil _ _, below_set2 (below_drewN BL.out nq) (Nat.le_succ _) _ _, fun b o e => by cases e⟩
  · have q : ((l : Int) == 2) = false := ne_beq (by omega)
    clear hno hl2
    go_enter Try.func51, Try.ntmps51
    go_wp2_with fail
    generalize hW : (w.alloc (.cells #[.int .i64 f, .int .i64 a, .int .i64 c, .slice A n k, .int .i64 t, .int .i64 an, .int .i64 o] 37)).alloc (.cells #[.slice none 0 0, .int .i64 0] 61) = W
    obtain ⟨hB1, hB2, hBel, hsz⟩ := two_boxes w [.int .i64 f, .int .i64 a, .int .i64 c, .slice A n k, .int .i64 t, .int .i64 an, .int .i64 o] [.slice none 0 0, .int .i64 0] 37 61 W hW.symm
    clear hW
    have hwW : w.heap.size < W.heap.size := by omega
    have hwW1 : w.heap.size + 1 < W.heap.size := by omega
    have x0 := (hBel.cell (p := ⟨b, o', none⟩) hbl).trans X0.out
    obtain ⟨k0, k1, k2, k3, k4, k5, k6⟩ := hB1.seven
    obtain ⟨j0, j1⟩ := hB2.two
    have jf := hB2.frozen
    have B1 := hide hB1
    have B2 := hide hB2
    have BL := hide hBel
    clear hB1 hB2 hBel hsz
    go_quiet (fail)
    go_wp2_with fail
    (try simp only [Exit.inBlock, Exit.then])
    have kZ : Blk (W.drewN nq) (w.heap.size + 1) 61 _ := B2.out
    refine bodyPost_ret (results_cell rfl rfl (kZ.set2 _ _) Try.underlying61 rfl (by kernel_rfl)) rfl ?_
    exact ⟨none, 0, 0, rfl, Nat.le_refl _, Rd.nil _ _, below_set2 (below_drewN BL.out nq) (Nat.le_succ _) _ _, fun b o e => by cases e⟩

/-- guessAnswer: what bytes seem to be, as an answer to a request that may be. -/
theorem guessAns_any (f a c t an o : Int) (A B : Option Addr) (n k l d : Nat) (vs : List Int) (xs : List UInt8) (w : World) (h : Rd w B l (bv xs)) (hd : l ≤ d) (hl0 : 0 < l) (hl : l ≤ 253) (hm : mayB f a c vs t an o = true) :
    Calls Try.prog 51 #[.agg #[.int .i64 f, .int .i64 a, .int .i64 c, .slice A n k, .int .i64 t, .int .i64 an, .int .i64 o], .slice B l d] w (RetAn (ag ⟨f, a, c, vs, t, an, o⟩ xs) w) := by
  have hxl : xs.length = l := by rw [← bv_length]; exact h.1
  have hf := may_func hm
  have hct := may_count hm
  obtain ⟨b, o', rfl, hbl, hcc⟩ := h.at_ (k := 0) (by omega)
  have x0 := hcc 0 _ (bv_get xs 0 (by omega))
  rw [Nat.add_zero] at x0
  have hx : xs[0]?.getD 0 = xs[0] := by rw [List.getElem?_eq_getElem (by omega)]; rfl
  have hlt := xs[0].toNat_lt
  unfold ag
  rw [hxl, hx]
  by_cases h2 : l = 2 ∧ ((xs[0].toNat : Nat) : Int) = f + 128
  · rw [if_pos h2]
    obtain ⟨h2a, h2b⟩ := h2
    subst h2a
    have x1 := hcc 1 _ (bv_get xs 1 (by omega))
    have hx' : xs[1]?.getD 0 = xs[1] := by rw [List.getElem?_eq_getElem (by omega)]; rfl
    rw [hx']
    rw [h2b] at x0
    exact guessAns_code f a c t an o A b o' n k d _ w (by omega) (by omega) hbl x0 x1 xs[1].toNat_lt
  · rw [if_neg h2]
    have hno : ¬ l = 2 ∨ ¬ ((xs[0].toNat : Nat) : Int) = f + 128 := by omega
    by_cases f1 : f = 1
    · subst f1
      exact guessAns_1 a c t an o _ A b o' n k l d xs w h x0 (by omega) (by omega) hd hl0 hl (by omega) (by omega) hno
    by_cases f2 : f = 2
    · subst f2
      exact guessAns_2 a c t an o _ A b o' n k l d xs w h x0 (by omega) (by omega) hd hl0 hl (by omega) (by omega) hno
    rw [if_neg (show ¬ (f = 1 ∨ f = 2) by omega)]
    by_cases f3 : f = 3
    · subst f3
      exact guessAns_3 a c t an o _ A b o' n k l d xs w h x0 (by omega) (by omega) hd hl0 hl hno
    by_cases f4 : f = 4
    · subst f4
      exact guessAns_4 a c t an o _ A b o' n k l d xs w h x0 (by omega) (by omega) hd hl0 hl hno
    by_cases f23 : f = 23
    · subst f23
      exact guessAns_23 a c t an o _ A b o' n k l d xs w h x0 (by omega) (by omega) hd hl0 hl hno
    rw [if_neg (show ¬ (f = 3 ∨ f = 4 ∨ f = 23) by omega)]
    exact guessAns_else f a c t an o _ A b o' n k l d w x0 (by omega) (by omega) hl0 (by omega) (by omega) hno (ne_beq f1) (ne_beq f2) (ne_beq f3) (ne_beq f4) (ne_beq f23)

end Go.Proofs.Ytfpfijggmfeejaa
