/-
  What is proved here: what Frame and Split of package rtu return, and what the document's Frame and Split return: the same. Conditions: lengths up to 600.
-/
import Derived.Test.YtkbombdhdgdpnaaCrc2
import Derived.Test.YtkbombdhdgdpnaaRef2b
namespace Go.Proofs.Ytkbombdhdgdpnaa
set_option linter.unusedVariables false
set_option linter.unusedSimpArgs false
open Go.RowKit

/-- A frame. -/
def frameL (u : Nat) (xs : List UInt8) : List UInt8 := (UInt8.ofNat u :: xs) ++ tailL (sumN (UInt8.ofNat u :: xs))
theorem frameL_length (u : Nat) (xs : List UInt8) : (frameL u xs).length = xs.length + 3 := by simp [frameL, tailL]
/-- May this be a frame? -/
def frOk (u : Int) (n : Nat) : Bool := decide (0 ≤ u ∧ u ≤ 247 ∧ 1 ≤ n ∧ n ≤ 253)
def frE (u : Int) (n : Nat) : Int := if frOk u n then 0 else 1
def frL (u : Int) (xs : List UInt8) : List UInt8 := if frOk u xs.length then frameL u.toNat xs else []

/-- What a frame is split into: the error, the unit, the bytes. -/
def splitE (xs : List UInt8) : Int := if xs.length < 4 then 7 else if 256 < xs.length then 2 else if goodB xs then (if 247 < (xs[0]?.getD 0).toNat then 1 else 0) else 20
def splitU (xs : List UInt8) : Int := if splitE xs = 0 then ((xs[0]?.getD 0).toNat : Int) else 0
def splitP (xs : List UInt8) : List UInt8 := if splitE xs = 0 then (xs.drop 1).take (xs.length - 3) else []

def RetFr (u : Int) (xs : List UInt8) (w : World) (e : Ending) (w' : World) : Prop :=
  ∃ A k, e = .returned (.tuple #[.slice A (frL u xs).length k, .int .i64 (frE u xs.length)]) ∧ (frL u xs).length ≤ k ∧ Rd w' A (frL u xs).length (bv (frL u xs)) ∧ Below w.heap.size w w'
def RetSp (xs : List UInt8) (w : World) (e : Ending) (w' : World) : Prop :=
  ∃ A k, e = .returned (.tuple #[.int .i64 (splitU xs), .slice A (splitP xs).length k, .int .i64 (splitE xs)]) ∧ Rd w' A (splitP xs).length (bv (splitP xs)) ∧ Below w.heap.size w w'

theorem RetSp.no {xs : List UInt8} {w : World} {x : Int} (hx : splitE xs = x) (h0 : x ≠ 0) {w' : World} (b : Below w.heap.size w w') : RetSp xs w (.returned (.tuple #[.int .i64 0, .slice none 0 0, .int .i64 x])) w' := by
  have h1 : ¬ splitE xs = 0 := by rw [hx]; exact h0
  have hU : splitU xs = 0 := by unfold splitU; rw [if_neg h1]
  have hP : splitP xs = [] := by unfold splitP; rw [if_neg h1]
  unfold RetSp
  rw [hU, hP, hx]
  exact ⟨none, 0, rfl, Rd.nil _ _, b⟩
theorem RetSp.yes {xs : List UInt8} {w : World} (h : splitE xs = 0) (u : Int) (hu : ((xs[0]?.getD 0).toNat : Int) = u) (n : Nat) (hn : n + 3 = xs.length) (A : Option Addr) (k : Nat) {w' : World} (hr : Rd w' A n (bv ((xs.drop 1).take n))) (b : Below w.heap.size w w') :
    RetSp xs w (.returned (.tuple #[.int .i64 u, .slice A n k, .int .i64 0])) w' := by
  have hU : splitU xs = u := by unfold splitU; rw [if_pos h, hu]
  have hP : splitP xs = (xs.drop 1).take n := by unfold splitP; rw [if_pos h, show xs.length - 3 = n by omega]
  have hl : ((xs.drop 1).take n).length = n := by simp; omega
  unfold RetSp
  rw [hU, hP, h, hl]
  exact ⟨A, k, rfl, hr, b⟩
theorem RetFr.no {u : Int} {xs : List UInt8} {w : World} (h : frOk u xs.length = false) : RetFr u xs w (.returned (.tuple #[.slice none 0 0, .int .i64 1])) w := by
  have h1 : frE u xs.length = 1 := by unfold frE; rw [h]; rfl
  have h2 : frL u xs = [] := by unfold frL; rw [h]; rfl
  unfold RetFr
  rw [h1, h2]
  exact ⟨none, 0, rfl, Nat.le_refl _, Rd.nil _ _, Below.refl _ _⟩
theorem RetFr.yes {u : Nat} {xs : List UInt8} {w : World} (h : frOk u xs.length = true) (A : Option Addr) (k n : Nat) (hn : xs.length + 3 = n) (hk : n ≤ k) {w' : World} (hr : Rd w' A n (bv (frameL u xs))) (b : Below w.heap.size w w') :
    RetFr u xs w (.returned (.tuple #[.slice A n k, .int .i64 0])) w' := by
  have h1 : frE u xs.length = 0 := by unfold frE; rw [h]; rfl
  have h2 : frL u xs = frameL u xs := by unfold frL; rw [h]; rfl
  unfold RetFr
  rw [h1, h2, frameL_length, hn]
  exact ⟨A, k, rfl, hk, hr, b⟩

/-- make([]T, n, m), T of one cell. -/
theorem run_mkc {P : Program} (t e : TypeId) (z : Value) (bytes : Nat) (ht : P.underlying t = some (.slice e)) (hinfo : (P.info? e).map (fun i => (i.zero, i.size, i.bytes)) = some (some z, 1, bytes)) (hz1 : z.cells = #[z])
    (a b : Int) (n m : Nat) (ea : a = n) (eb : b = m) (hnm : n ≤ m) (hbytes : bytes * m ≤ 281474976710656) (h63 : m ≤ 9223372036854775807) (w : World) :
    (Instr.makeSlice t (.int .i64 a) (.int .i64 b)).run P w = .ok (.slice (some ⟨w.heap.size, 0, none⟩) n m) (w.alloc (.cells (arr (List.replicate m z)) e)) := by
  subst ea eb
  obtain ⟨i, hi, hzz⟩ := Option.map_eq_some_iff.1 hinfo
  simp only [Prod.mk.injEq] at hzz
  obtain ⟨hz, hs, hb⟩ := hzz
  have hb' : ((bytes * m : Nat) : Int) ≤ 281474976710656 := by omega
  rw [Int.natCast_mul] at hb'
  have hr := run_make (P := P) w t e i z ht hi hz .i64 .i64 n m (by omega) (by omega) (by rw [hb]; exact hb') (by omega)
  rw [hs, hz1, Nat.mul_one, madeCells_one, Int.toNat_natCast, Int.toNat_natCast] at hr
  exact hr

/-- A row of the call's own, longer than what is told of it. -/
theorem Blk.ownC {w : World} {g : Nat} {e : TypeId} {cs : List Value} (h : Blk w g e cs) {base : Nat} (hb : base ≤ g) (n c : Nat) (hc : cs.length = c) (hn : n ≤ c) (hm : c ≤ maxLen) (vs : List Value) (hv : cs.take n = vs) : w.ownsRow base e 1 (.slice (some ⟨g, 0, none⟩) n c) n vs := by
  subst hv
  refine ⟨by simp; omega, .inr ⟨g, c, arr cs, rfl, hb, h, hn, hm, by rw [arr_size]; omega, by rw [arr_toList, Nat.mul_one]⟩⟩

theorem bv_u8 (u : Nat) (hu : u ≤ 247) (xs : List UInt8) : bv (UInt8.ofNat u :: xs) = [Value.int .u8 (u : Int)] ++ bv xs := by
  have e1 : u % 2 ^ 8 = u := Nat.mod_eq_of_lt (by omega)
  simp only [bv, List.map_cons, UInt8.toNat_ofNat', e1, List.cons_append, List.nil_append]

theorem frame_no (u : Int) (A : Option Addr) (l c : Nat) (xs : List UInt8) (w : World) (hx : xs.length = l) (h : frOk u l = false) :
    Calls Try.prog 7 #[.int .i64 u, .slice A l c] w (RetFr u xs w) := by
  have HR := hide (RetFr.no (w := w) (by rw [hx]; exact h))
  have h' : u < 0 ∨ 247 < u ∨ l < 1 ∨ 253 < l := by
    unfold frOk at h
    rw [decide_eq_false_iff_not] at h
    omega
  clear h hx
  by_cases h1 : u < 0
  · go_enter Try.func7, Try.ntmps7
    go_wp2
    go_ret2
    exact HR.out
  by_cases h2 : 247 < u
  · go_enter Try.func7, Try.ntmps7
    go_wp2
    go_ret2
    exact HR.out
  by_cases h3 : l < 1
  · have q : (l : Int) < 1 := by omega
    go_enter Try.func7, Try.ntmps7
    go_wp2
    go_ret2
    exact HR.out
  · have q : ¬ (l : Int) < 1 := by omega
    have q2 : (253 : Int) < (l : Int) := by omega
    clear h' h3
    go_enter Try.func7, Try.ntmps7
    go_wp2
    go_ret2
    exact HR.out

set_option maxHeartbeats 1000000 in
theorem frame_yes (u : Nat) (A : Option Addr) (l c : Nat) (xs : List UInt8) (w : World) (hr : Rd w A l (bv xs)) (hx : xs.length = l) (h : frOk u l = true) :
    Calls Try.prog 7 #[.int .i64 (u : Int), .slice A l c] w (RetFr u xs w) := by
  have hb : u ≤ 247 ∧ 1 ≤ l ∧ l ≤ 253 := by
    unfold frOk at h
    rw [decide_eq_true_iff] at h
    omega
  obtain ⟨hu, h1, h253⟩ := hb
  have Hok := hide h
  have Hr := hide hr
  have Hx := hide hx
  have q0 : ¬ (u : Int) < 0 := by omega
  have q1 : ¬ (247 : Int) < (u : Int) := by omega
  have q2 : ¬ (l : Int) < 1 := by omega
  have q3 : ¬ (253 : Int) < (l : Int) := by omega
  have hmk := fun W => run_mkc (P := Try.prog) 22 5 (.int .u8 0) 1 Try.underlying22 u8_info rfl 1 (1 + (l : Int)) 1 (1 + l) rfl (by omega) (by omega) (by omega) (by omega) W
  obtain ⟨W, hW⟩ : ∃ W, w.alloc (.cells (arr (List.replicate (1 + l) (.int .u8 0))) 5) = W := ⟨_, rfl⟩
  have kW : Blk W w.heap.size 5 (List.replicate (1 + l) (.int .u8 0)) := by rw [← hW]; exact Blk.new w _ _
  have bW : Below w.heap.size w W := by rw [← hW]; exact (Below.refl _ _).alloc (Nat.le_refl _) _
  have hmk0 := hmk w
  rw [hW] at hmk0
  have hc0 : W.cell? ⟨w.heap.size, 0, none⟩ = some (.int .u8 0) := by rw [kW.cell, List.getElem?_replicate, if_pos (by omega)]
  have hf0 := kW.frozen 0
  have kV := kW.set 0 (.int .u8 (u : Int))
  have bV := bW.setCell (p := ⟨w.heap.size, 0, none⟩) (Nat.le_refl _) (.int .u8 (u : Int))
  have oV := kV.ownC (base := w.heap.size) (Nat.le_refl _) 1 (1 + l) (by simp) (by omega) (by unfold maxLen; omega) [.int .u8 (u : Int)] (by rw [Nat.add_comm 1 l, List.replicate_succ]; rfl)
  have OV := hide oV
  have BV := hide bV
  have RV := hide (hr.keep bV)
  have hm : maxLen = 9223372036854775807 := by rfl
  have Hbu := hide (bv_u8 u hu xs)
  clear hmk hW kW bW hr hx h kV bV oV
  go_enter Try.func7, Try.ntmps7
  go_wp2_with (first
    | (at_builtin; refine wpList_app rfl (.tmp 31) (.tmp 32) 22 rfl 5 _ _ Try.underlying22 u8_info rfl w.heap.size (some ⟨w.heap.size, 0, none⟩) 1 (1 + l) [.int .u8 (u : Int)] rfl OV.out A l c (bv xs) rfl RV.out (bv_one _) (by unfold maxLen; omega) (by omega) BV.out.size ?_; intro A1 c1 w1 o1 g1 b1; rw [← Hbu.out] at o1; have R1 := hide (own_rd o1); have B1 := hide (BV.out.trans b1); clear o1 g1 b1)
    | (go_at_call 16; refine (add_any A1 (1 + l) c1 (l + 3) (by omega) (UInt8.ofNat u :: xs) w1 R1.out (by omega)).mono ?_; rintro e w2 ⟨rfl, k2, b2⟩))
  go_ret2
  exact RetFr.yes (by rw [Hx.out]; exact Hok.out) _ _ (l + 3) (by rw [Hx.out]) (Nat.le_refl _) (k2.reads (Below.refl _ _) (l + 3) (by rw [bv_length, List.length_append, List.length_cons, Hx.out]; rfl)) (below_on B1.out b2)

theorem frame_any (u : Int) (A : Option Addr) (l c : Nat) (xs : List UInt8) (w : World) (hr : Rd w A l (bv xs)) (hx : xs.length = l) :
    Calls Try.prog 7 #[.int .i64 u, .slice A l c] w (RetFr u xs w) := by
  cases h : frOk u l with
  | false => exact frame_no u A l c xs w hx h
  | true =>
    obtain ⟨n, rfl⟩ : ∃ n : Nat, u = (n : Int) := ⟨u.toNat, by unfold frOk at h; rw [decide_eq_true_iff] at h; omega⟩
    exact frame_yes n A l c xs w hr hx h

/-- The document's Frame, of what may be. -/
theorem refFrame_yes (u : Nat) (A : Option Addr) (l c : Nat) (xs : List UInt8) (w : World) (hr : Rd w A l (bv xs)) (hx : xs.length = l) (hu : u ≤ 247) (hl : l ≤ 253) :
    Calls Try.prog 11 #[.int .i64 (u : Int), .slice A l c] w (RetSl (l + 3) (bv (frameL u xs)) w) := by
  have Hbu := hide (bv_u8 u hu xs)
  have q0 : (0 : Int) ≤ (u : Int) := by omega
  have q1 : (u : Int) ≤ 247 := by omega
  have hb1 : bv [UInt8.ofNat u] = [Value.int .u8 (u : Int)] := by rw [bv_u8 u hu []]; rfl
  have zA : Rd (w.alloc (.cells #[Value.int .u8 (u : Int)] 5)) (some ⟨w.heap.size, 0, none⟩) 1 (bv [UInt8.ofNat u]) := by rw [hb1]; exact rd_one _ _ _
  have bA : Below w.heap.size w (w.alloc (.cells #[Value.int .u8 (u : Int)] 5)) := (Below.refl _ _).alloc (Nat.le_refl _) _
  have ZA := hide zA
  have BA := hide bA
  have HR := hide (hr.keep bA)
  clear zA bA hr hb1 hx
  go_enter Try.func11, Try.ntmps11
  go_wp2_with fail
  refine (both_any _ A 1 l 1 c [UInt8.ofNat u] xs _ ZA.out HR.out (by omega) (by omega)).mono ?_
  rintro e w1 ⟨C, k, rfl, hk, r1, b1⟩
  have B1 := hide (below_on BA.out b1)
  have R1 := hide r1
  clear r1 b1
  go_wp2_with fail
  refine (refAdd_any C (1 + l) k (UInt8.ofNat u :: xs) w1 R1.out (by omega)).mono ?_
  rintro e w2 ⟨D, m, rfl, hm, r2, b2⟩
  go_wp2_with fail
  go_ret
  rw [show 1 + l + 2 = l + 3 by omega] at *
  exact ⟨D, m, rfl, hm, r2, below_on B1.out b2⟩

/-! ### Split -/
theorem splitE_a (xs : List UInt8) (h : xs.length < 4) : splitE xs = 7 := by unfold splitE; rw [if_pos h]
theorem splitE_b (xs : List UInt8) (h : 256 < xs.length) : splitE xs = 2 := by unfold splitE; rw [if_neg (by omega), if_pos h]
theorem splitE_c (xs : List UInt8) (h : ¬ xs.length < 4) (h2 : ¬ 256 < xs.length) (hg : goodB xs = false) : splitE xs = 20 := by unfold splitE; rw [if_neg h, if_neg h2, hg]; rfl
theorem splitE_d (xs : List UInt8) (h : ¬ xs.length < 4) (h2 : ¬ 256 < xs.length) (hg : goodB xs = true) (hu : 247 < (xs[0]?.getD 0).toNat) : splitE xs = 1 := by unfold splitE; rw [if_neg h, if_neg h2, hg, if_pos rfl, if_pos hu]
theorem splitE_e (xs : List UInt8) (h : ¬ xs.length < 4) (h2 : ¬ 256 < xs.length) (hg : goodB xs = true) (hu : ¬ 247 < (xs[0]?.getD 0).toNat) : splitE xs = 0 := by unfold splitE; rw [if_neg h, if_neg h2, hg, if_pos rfl, if_neg hu]

set_option maxHeartbeats 1000000 in
theorem split_any (A : Option Addr) (l c : Nat) (xs : List UInt8) (w : World) (hr : Rd w A l (bv xs)) (hx : xs.length = l) (hc : l ≤ c) :
    Calls Try.prog 8 #[.slice A l c] w (RetSp xs w) := by
  by_cases h1 : l < 4
  · have HR := hide (RetSp.no (w := w) (splitE_a xs (by omega)) (by decide) (Below.refl _ _))
    have q : (l : Int) < 4 := by omega
    go_enter Try.func8, Try.ntmps8
    go_wp2
    go_ret3
    exact HR.out
  have q1 : ¬ (l : Int) < 4 := by omega
  by_cases h2 : 256 < l
  · have HR := hide (RetSp.no (w := w) (splitE_b xs (by omega)) (by decide) (Below.refl _ _))
    have q : (256 : Int) < (l : Int) := by omega
    go_enter Try.func8, Try.ntmps8
    go_wp2
    go_ret3
    exact HR.out
  have q2 : ¬ (256 : Int) < (l : Int) := by omega
  cases hg : goodB xs with
  | false =>
    have HR := hide (RetSp.no (w := w) (splitE_c xs (by omega) (by omega) hg) (by decide) (Below.refl _ _))
    have HW := hide (whole_no A l c xs w hr hc (by omega) hg)
    clear hr hx
    go_enter Try.func8, Try.ntmps8
    go_wp2_with (go_at_call 17; refine HW.out.mono ?_; rintro e w' ⟨rfl, rfl⟩)
    go_ret3
    exact HR.out
  | true =>
    obtain ⟨n, hn⟩ : ∃ n, n + 2 = l := ⟨l - 2, by omega⟩
    have HW := hide (wholeI A l n c hn xs w hr hc (by omega) hg)
    have hx0 : 0 < xs.length := by omega
    have e0 : xs[0]? = some xs[0] := List.getElem?_eq_getElem (by omega)
    have g0 : (bv (xs.take n))[0]? = some (.int .u8 ((xs[0].toNat : Nat) : Int)) := by rw [bv_get (xs.take n) 0 (by rw [List.length_take]; omega)]; simp
    have hX : xs[0].toNat < 256 := xs[0].toNat_lt
    have hn4 : 2 ≤ n := by omega
    have hn5 : n ≤ 254 := by omega
    have Hx := hide hx
    by_cases hu : 247 < xs[0].toNat
    · have HE := hide (splitE_d xs (by omega) (by omega) hg (by rw [e0]; exact hu))
      have q3 : (247 : Int) < ((xs[0].toNat : Nat) : Int) := by omega
      have G0 := hide g0
      clear hr hx e0 g0
      generalize xs[0].toNat = X at *
      clear h1 h2 hx0 hn
      have q4 : (0 : Int) < (n : Int) := by omega
      go_enter Try.func8, Try.ntmps8
      go_wp2_with (go_at_call 17; refine HW.out.mono ?_; rintro e w1 ⟨rfl, k1, b1⟩; have c0 : w1.cell? ⟨w.heap.size, 0, none⟩ = some (.int .u8 (X : Int)) := by rw [k1.cell]; exact G0.out)
      go_ret3
      exact RetSp.no HE.out (by decide) b1
    · have HE := hide (splitE_e xs (by omega) (by omega) hg (by rw [e0]; exact hu))
      have q3 : ¬ (247 : Int) < ((xs[0].toNat : Nat) : Int) := by omega
      have HU : Hid (((xs[0]?.getD 0).toNat : Int) = ((xs[0].toNat : Nat) : Int)) := by show _ = _; rw [e0]; rfl
      obtain ⟨m, hm⟩ : ∃ m, m + 3 = xs.length := ⟨xs.length - 3, by omega⟩
      obtain rfl : n = m + 1 := by omega
      have HM := hide hm
      have hsl := fun W => run_slTail (P := Try.prog) 22 5 Try.underlying22 u8_size (some ⟨w.heap.size, 0, none⟩) (m + 1) (m + 1) 1 1 rfl (by omega) W
      rw [Nat.add_sub_cancel] at hsl
      have Hn : Hid ((xs.take (m + 1)).length = m + 1) := by show _ = _; rw [List.length_take]; omega
      have G0 := hide g0
      clear hr hx e0 hm g0
      generalize xs[0].toNat = X at *
      clear h1 h2 hx0 hu hn
      have q4 : (0 : Int) < (m : Int) + 1 := by omega
      go_enter Try.func8, Try.ntmps8
      go_wp2_with (go_at_call 17; refine HW.out.mono ?_; rintro e w1 ⟨rfl, k1, b1⟩; have c0 : w1.cell? ⟨w.heap.size, 0, none⟩ = some (.int .u8 (X : Int)) := by rw [k1.cell]; exact G0.out)
      refine wp_region_held_drew (S := fun w' => w' = w1.drew) (by kernel_rfl) ?_ (fun hHeld => ?_)
      · rfl
      refine wpAnyH_take (i := 0) (oi := { dst := some 28, op := _, type := _, pos := _, after := _, guard := _ }) (v := ?v1x1) rfl (by kernel_rfl) (by kernel_rfl) (by kernel_rfl) (fun _ _ _ h => h) (Or.inl ⟨by rfl, ?hy1x1⟩) hHeld ?rest1x1
      case hy1x1 => (intro w hSw; go_simp <;> with_reducible rfl)
      try simp only [Act.put, List.setIfInBounds_toArray, List.set_cons_zero, List.set_cons_succ]
      refine wpAnyH_take (i := 1) (oi := { dst := some 29, op := _, type := _, pos := _, after := _, guard := _ }) (v := ?v1x2) rfl (by kernel_rfl) (by kernel_rfl) (by kernel_rfl) (fun _ _ _ h => h) (Or.inl ⟨by rfl, ?hy1x2⟩) hHeld ?rest1x2
      case hy1x2 => (intro w hSw; go_simp <;> with_reducible rfl)
      try simp only [Act.put, List.setIfInBounds_toArray, List.set_cons_zero, List.set_cons_succ]
      refine wpAnyH_take (i := 2) (oi := { dst := some 30, op := _, type := _, pos := _, after := _, guard := _ }) (v := ?v1x3) rfl (by kernel_rfl) (by kernel_rfl) (by kernel_rfl) (fun _ _ _ h => h) (Or.inl ⟨by rfl, ?hy1x3⟩) hHeld ?rest1x3
      case hy1x3 => (intro w hSw; go_simp <;> with_reducible rfl)
      try simp only [Act.put, List.setIfInBounds_toArray, List.set_cons_zero, List.set_cons_succ]
      refine wpAnyH_take (i := 3) (oi := { dst := some 2, op := _, type := _, pos := _, after := _, guard := _ }) (v := ?v1x4) rfl (by kernel_rfl) (by kernel_rfl) (by kernel_rfl) (fun _ _ _ h => h) (Or.inl ⟨by rfl, ?hy1x4⟩) hHeld ?rest1x4
      case hy1x4 => (intro w hSw; go_simp <;> with_reducible rfl)
      try simp only [Act.put, List.setIfInBounds_toArray, List.set_cons_zero, List.set_cons_succ]
      refine wpAnyH_take (i := 4) (oi := { dst := some 3, op := _, type := _, pos := _, after := _, guard := _ }) (v := ?v1x5) rfl (by kernel_rfl) (by kernel_rfl) (by kernel_rfl) (fun _ _ _ h => h) (Or.inl ⟨by rfl, ?hy1x5⟩) hHeld ?rest1x5
      case hy1x5 => (intro w hSw; go_simp <;> with_reducible rfl)
      try simp only [Act.put, List.setIfInBounds_toArray, List.set_cons_zero, List.set_cons_succ]
      refine wpAnyH_take (i := 5) (oi := { dst := some 4, op := _, type := _, pos := _, after := _, guard := _ }) (v := ?v1x6) rfl (by kernel_rfl) (by kernel_rfl) (by kernel_rfl) (fun _ _ _ h => h) (Or.inl ⟨by rfl, ?hy1x6⟩) hHeld ?rest1x6
      case hy1x6 => (intro w hSw; go_simp <;> with_reducible rfl)
      try simp only [Act.put, List.setIfInBounds_toArray, List.set_cons_zero, List.set_cons_succ]
      refine wpAnyH_done (by kernel_rfl) ?_ _
      go_wp2_with fail
      go_ret3
      refine RetSp.yes HE.out _ HU.out m HM.out _ _ ?_ b1.drew
      have r1 := (k1.reads (Below.refl _ _) (m + 1) (by rw [bv_length]; exact Hn.out)).drew.tail 1 (m + 1) (by omega) (by omega)
      rw [Nat.add_sub_cancel, bv_drop, List.drop_take, Nat.add_sub_cancel] at r1
      exact r1

/-- The document's Split. -/
theorem refSplit_any (A : Option Addr) (l c : Nat) (xs : List UInt8) (w : World) (hr : Rd w A l (bv xs)) (hx : xs.length = l) (hc : l ≤ c) :
    Calls Try.prog 9 #[.slice A l c] w (RetSp xs w) := by
  by_cases h1 : l < 4
  · have HR := hide (RetSp.no (w := w) (splitE_a xs (by omega)) (by decide) (Below.refl _ _))
    have q : (l : Int) < 4 := by omega
    go_enter Try.func9, Try.ntmps9
    go_wp2
    go_ret3
    exact HR.out
  have q1 : ¬ (l : Int) < 4 := by omega
  by_cases h2 : 256 < l
  · have HR := hide (RetSp.no (w := w) (splitE_b xs (by omega)) (by decide) (Below.refl _ _))
    have q : (256 : Int) < (l : Int) := by omega
    go_enter Try.func9, Try.ntmps9
    go_wp2
    go_ret3
    exact HR.out
  have q2 : ¬ (256 : Int) < (l : Int) := by omega
  have HG := hide (refGood_any A l c xs w hr hc (by omega))
  cases hg : goodB xs with
  | false =>
    have HR := hide (fun w' b => RetSp.no (w := w) (w' := w') (splitE_c xs (by omega) (by omega) hg) (by decide) b)
    rw [hg] at HG
    clear hr hx
    go_enter Try.func9, Try.ntmps9
    go_wp2_with (go_at_call 18; refine HG.out.mono ?_; rintro e w1 ⟨rfl, b1⟩)
    go_ret3
    exact HR.out _ b1
  | true =>
    rw [hg] at HG
    have hx0 : 0 < xs.length := by omega
    have e0 : xs[0]? = some xs[0] := List.getElem?_eq_getElem (by omega)
    have hX : xs[0].toNat < 256 := xs[0].toNat_lt
    obtain ⟨b, o, rfl, hbl, hcell⟩ := hr.at_ (k := 0) (by omega)
    have g0 := hcell 0 _ (bv_get xs 0 (by omega))
    rw [Nat.add_zero] at g0
    have Hr := hide hr
    have Hx := hide hx
    have q4 : (0 : Int) < (l : Int) := by omega
    by_cases hu : 247 < xs[0].toNat
    · have HE := hide (splitE_d xs (by omega) (by omega) hg (by rw [e0]; exact hu))
      have q3 : (247 : Int) < ((xs[0].toNat : Nat) : Int) := by omega
      have G0 := hide g0
      clear hr hx e0 hcell g0
      generalize xs[0].toNat = X at *
      clear h1 h2 hx0
      go_enter Try.func9, Try.ntmps9
      go_wp2_with (go_at_call 18; refine HG.out.mono ?_; rintro e w1 ⟨rfl, b1⟩; have c0 : w1.cell? ⟨b, o, none⟩ = some (.int .u8 (X : Int)) := (b1.cell (p := ⟨b, o, none⟩) hbl).trans G0.out)
      go_ret3
      exact RetSp.no HE.out (by decide) b1
    · have HE := hide (splitE_e xs (by omega) (by omega) hg (by rw [e0]; exact hu))
      have q3 : ¬ (247 : Int) < ((xs[0].toNat : Nat) : Int) := by omega
      have HU : Hid (((xs[0]?.getD 0).toNat : Int) = ((xs[0].toNat : Nat) : Int)) := by show _ = _; rw [e0]; rfl
      obtain ⟨m, hm⟩ : ∃ m, m + 3 = xs.length := ⟨xs.length - 3, by omega⟩
      have HM := hide hm
      have hsl := fun W => run_sl (P := Try.prog) 22 5 Try.underlying22 u8_size (some ⟨b, o, none⟩) l c 1 ((l : Int) - 2) 1 (m + 1) rfl (by omega) (by omega) (by omega) W
      rw [Nat.add_sub_cancel] at hsl
      have hwr := wrap_sub2 l (by omega)
      have G0 := hide g0
      clear hr hx e0 hm hcell g0
      generalize xs[0].toNat = X at *
      clear h1 h2 hx0 hu
      go_enter Try.func9, Try.ntmps9
      go_wp2_with (go_at_call 18; refine HG.out.mono ?_; rintro e w1 ⟨rfl, b1⟩; have c0 : w1.cell? ⟨b, o, none⟩ = some (.int .u8 (X : Int)) := (b1.cell (p := ⟨b, o, none⟩) hbl).trans G0.out)
      have c1 : ∀ w', w' = w1.drew → w'.cell? ⟨b, o, none⟩ = some (.int .u8 (X : Int)) := fun w' e => by subst e; exact c0
      have hXw : IntKind.i64.wrap (X : Int) = (X : Int) := wrap_nat X (by omega)
      have q5 : 0 < l := by omega
      refine wp_region_held_drew (S := fun w' => w' = w1.drew) (by kernel_rfl) ?_ (fun hHeld => ?_)
      · rfl
      refine wpAnyH_take (i := 0) (oi := { dst := some 19, op := _, type := _, pos := _, after := _, guard := _ }) (v := ?v2x1) rfl (by kernel_rfl) (by kernel_rfl) (by kernel_rfl) (fun _ _ _ h => h) (Or.inl ⟨by rfl, ?hy2x1⟩) hHeld ?rest2x1
      case hy2x1 => (intro w hSw; go_simp <;> with_reducible rfl)
      try simp only [Act.put, List.setIfInBounds_toArray, List.set_cons_zero, List.set_cons_succ]
      refine wpAnyH_take (i := 1) (oi := { dst := some 20, op := _, type := _, pos := _, after := _, guard := _ }) (v := ?v2x2) rfl (by kernel_rfl) (by kernel_rfl) (by kernel_rfl) (fun _ _ _ h => h) (Or.inl ⟨by rfl, ?hy2x2⟩) hHeld ?rest2x2
      case hy2x2 => (intro w hSw; go_simp <;> with_reducible rfl)
      try simp only [Act.put, List.setIfInBounds_toArray, List.set_cons_zero, List.set_cons_succ]
      refine wpAnyH_take (i := 2) (oi := { dst := some 21, op := _, type := _, pos := _, after := _, guard := _ }) (v := ?v2x3) rfl (by kernel_rfl) (by kernel_rfl) (by kernel_rfl) (fun _ _ _ h => h) (Or.inl ⟨by rfl, ?hy2x3⟩) hHeld ?rest2x3
      case hy2x3 => (intro w hSw; go_simp <;> with_reducible rfl)
      try simp only [Act.put, List.setIfInBounds_toArray, List.set_cons_zero, List.set_cons_succ]
      refine wpAnyH_take (i := 3) (oi := { dst := some 22, op := _, type := _, pos := _, after := _, guard := _ }) (v := ?v2x4) rfl (by kernel_rfl) (by kernel_rfl) (by kernel_rfl) (fun _ _ _ h => h) (Or.inl ⟨by rfl, ?hy2x4⟩) hHeld ?rest2x4
      case hy2x4 => (intro w hSw; go_simp <;> with_reducible rfl)
      try simp only [Act.put, List.setIfInBounds_toArray, List.set_cons_zero, List.set_cons_succ]
      refine wpAnyH_take (i := 4) (oi := { dst := some 23, op := _, type := _, pos := _, after := _, guard := _ }) (v := ?v2x5) rfl (by kernel_rfl) (by kernel_rfl) (by kernel_rfl) (fun _ _ _ h => h) (Or.inl ⟨by rfl, ?hy2x5⟩) hHeld ?rest2x5
      case hy2x5 => (intro w hSw; go_simp <;> with_reducible rfl)
      try simp only [Act.put, List.setIfInBounds_toArray, List.set_cons_zero, List.set_cons_succ]
      refine wpAnyH_take (i := 5) (oi := { dst := some 24, op := _, type := _, pos := _, after := _, guard := _ }) (v := ?v2x6) rfl (by kernel_rfl) (by kernel_rfl) (by kernel_rfl) (fun _ _ _ h => h) (Or.inl ⟨by rfl, ?hy2x6⟩) hHeld ?rest2x6
      case hy2x6 => (intro w hSw; go_simp <;> with_reducible rfl)
      try simp only [Act.put, List.setIfInBounds_toArray, List.set_cons_zero, List.set_cons_succ]
      refine wpAnyH_take (i := 6) (oi := { dst := some 25, op := _, type := _, pos := _, after := _, guard := _ }) (v := ?v2x7) rfl (by kernel_rfl) (by kernel_rfl) (by kernel_rfl) (fun _ _ _ h => h) (Or.inl ⟨by rfl, ?hy2x7⟩) hHeld ?rest2x7
      case hy2x7 => (intro w hSw; go_simp <;> with_reducible rfl)
      try simp only [Act.put, List.setIfInBounds_toArray, List.set_cons_zero, List.set_cons_succ]
      refine wpAnyH_take (i := 7) (oi := { dst := some 26, op := _, type := _, pos := _, after := _, guard := _ }) (v := ?v2x8) rfl (by kernel_rfl) (by kernel_rfl) (by kernel_rfl) (fun _ _ _ h => h) (Or.inl ⟨by rfl, ?hy2x8⟩) hHeld ?rest2x8
      case hy2x8 => (intro w hSw; go_simp <;> with_reducible rfl)
      try simp only [Act.put, List.setIfInBounds_toArray, List.set_cons_zero, List.set_cons_succ]
      refine wpAnyH_take (i := 8) (oi := { dst := some 27, op := _, type := _, pos := _, after := _, guard := _ }) (v := ?v2x9) rfl (by kernel_rfl) (by kernel_rfl) (by kernel_rfl) (fun _ _ _ h => h) (Or.inl ⟨by rfl, ?hy2x9⟩) hHeld ?rest2x9
      case hy2x9 => (intro w hSw; go_simp <;> with_reducible rfl)
      try simp only [Act.put, List.setIfInBounds_toArray, List.set_cons_zero, List.set_cons_succ]
      refine wpAnyH_take (i := 9) (oi := { dst := some 2, op := _, type := _, pos := _, after := _, guard := _ }) (v := ?v2x10) rfl (by kernel_rfl) (by kernel_rfl) (by kernel_rfl) (fun _ _ _ h => h) (Or.inl ⟨by rfl, ?hy2x10⟩) hHeld ?rest2x10
      case hy2x10 => (intro w hSw; go_simp <;> with_reducible rfl)
      try simp only [Act.put, List.setIfInBounds_toArray, List.set_cons_zero, List.set_cons_succ]
      refine wpAnyH_take (i := 10) (oi := { dst := some 3, op := _, type := _, pos := _, after := _, guard := _ }) (v := ?v2x11) rfl (by kernel_rfl) (by kernel_rfl) (by kernel_rfl) (fun _ _ _ h => h) (Or.inl ⟨by rfl, ?hy2x11⟩) hHeld ?rest2x11
      case hy2x11 => (intro w hSw; go_simp <;> with_reducible rfl)
      try simp only [Act.put, List.setIfInBounds_toArray, List.set_cons_zero, List.set_cons_succ]
      refine wpAnyH_take (i := 11) (oi := { dst := some 4, op := _, type := _, pos := _, after := _, guard := _ }) (v := ?v2x12) rfl (by kernel_rfl) (by kernel_rfl) (by kernel_rfl) (fun _ _ _ h => h) (Or.inl ⟨by rfl, ?hy2x12⟩) hHeld ?rest2x12
      case hy2x12 => (intro w hSw; go_simp <;> with_reducible rfl)
      try simp only [Act.put, List.setIfInBounds_toArray, List.set_cons_zero, List.set_cons_succ]
      refine wpAnyH_done (by kernel_rfl) ?_ _
      go_wp2_with fail
      go_ret3
      refine RetSp.yes HE.out _ HU.out m HM.out _ _ ?_ b1.drew
      have r1 := ((Hr.out.keep b1).drew).cut 1 m c (by have := HM.out; have := Hx.out; omega) hc
      rw [bv_cut] at r1
      exact r1

end Go.Proofs.Ytkbombdhdgdpnaa
