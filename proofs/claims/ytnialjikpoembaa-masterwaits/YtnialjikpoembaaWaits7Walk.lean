/-
  What is proved here: the law MasterWaits returns true for every three numbers, and writes nothing that was there. No condition.
-/
import Derived.Test.YtnialjikpoembaaMs15
import Derived.Test.YtnialjikpoembaaMsMath3
namespace Go.Proofs.Ytnialjikpoembaa
set_option linter.unusedVariables false
set_option linter.unusedSimpArgs false
open Go.RowKit Go.Maps

def wx1 : Wt := ⟨1, 1, rdq⟩
def wx2 : Wt := ⟨2, 1, rdq⟩
theorem wi_start (wa ag re : Int) : WI wa ag re wx1 wx2 0 (askS (askS (mNew wa ag re) 1 rdq) 1 rdq) := by
  have h1 : askE (mNew wa ag re) 1 rdq = 0 := by
    unfold askE
    rw [if_neg (by rw [rdq_may]; simp)]
    rfl
  have e1 : askS (mNew wa ag re) 1 rdq = { mNew wa ag re with next := 1, line := [wx1] } := by
    unfold askS
    rw [if_pos h1]
    rfl
  have h2 : askE (askS (mNew wa ag re) 1 rdq) 1 rdq = 0 := by
    unfold askE
    rw [e1, if_neg (by rw [rdq_may]; simp)]
    rfl
  have e2 : askS (askS (mNew wa ag re) 1 rdq) 1 rdq = { mNew wa ag re with next := 2, line := [wx1, wx2] } := by
    unfold askS at h2 ⊢
    rw [if_pos h2, if_pos h1]
    rfl
  rw [e2]
  exact ⟨⟨rfl, rfl, rfl, rfl⟩, Or.inl ⟨rfl, rfl, rfl, rfl, fun _ => rfl⟩⟩
/-- What the rounds keep. -/
structure WW (g : Nat) (x0 x1 x2 : Int) (w : World) (n : Nat) (wr : World) : Prop where
  all : ∃ (m : ML) (s : MSt), MsW w.heap.size wr m s ∧ m.g = g ∧ m.n ≤ n ∧ Below w.heap.size w wr ∧ WI x0 x1 x2 wx1 wx2 n s
set_option maxHeartbeats 4000000 in
set_option maxRecDepth 100000 in
theorem waits7_walk (x0 x1 x2 : Int) (w : World) : Calls Try.prog 7 #[.int .i64 x0, .int .i64 x1, .int .i64 x2] w fun e w' => e = .returned (.bool true) ∧ Below w.heap.size w w' := by
  cases t1 : decide (x0 < 1)
  case true =>
    go_enter Try.func7, Try.ntmps7
    go_wp2
    go_ret
    exact ⟨rfl, Below.refl _ _⟩
  cases t2 : decide (30 < x0)
  case true =>
    go_enter Try.func7, Try.ntmps7
    go_wp2
    go_ret
    exact ⟨rfl, Below.refl _ _⟩
  cases t3 : decide (x1 < 0)
  case true =>
    go_enter Try.func7, Try.ntmps7
    go_wp2
    go_ret
    exact ⟨rfl, Below.refl _ _⟩
  cases t4 : decide (16 < x1)
  case true =>
    go_enter Try.func7, Try.ntmps7
    go_wp2
    go_ret
    exact ⟨rfl, Below.refl _ _⟩
  cases t5 : decide (x2 < 0)
  case true =>
    go_enter Try.func7, Try.ntmps7
    go_wp2
    go_ret
    exact ⟨rfl, Below.refl _ _⟩
  cases t6 : decide (200 < x2)
  case true =>
    go_enter Try.func7, Try.ntmps7
    go_wp2
    go_ret
    exact ⟨rfl, Below.refl _ _⟩
  simp only [decide_eq_false_iff_not] at t1 t2 t3 t4 t5 t6
  have h1 : decide (x0 < 1) = false := decide_eq_false t1
  have h2 : decide (30 < x0) = false := decide_eq_false t2
  have h3 : decide (x1 < 0) = false := decide_eq_false t3
  have h4 : decide (16 < x1) = false := decide_eq_false t4
  have h5 : decide (x2 < 0) = false := decide_eq_false t5
  have h6 : decide (200 < x2) = false := decide_eq_false t6
  have hmay : mMay x0 x1 x2 = true := by
    unfold mMay
    rw [decide_eq_true (by omega), decide_eq_true (by omega), decide_eq_true (by omega), decide_eq_true (by omega)]
    rfl
  obtain ⟨E, hE⟩ : ∃ E, x0 * (x1 + 1) = E := ⟨_, rfl⟩
  have hE1 : x0 ≤ E := by
    have := mul_up (q := 0) (a := x1) (w := x0) (by omega) (by omega)
    omega
  have hE2 : E ≤ 510 := by
    have a1 : x0 * (x1 + 1) ≤ 30 * (x1 + 1) := Int.mul_le_mul_of_nonneg_right (by omega) (by omega)
    omega
  have q1 : IntKind.i64.wrap (x1 + 1) = x1 + 1 := by rw [IntKind.wrap_i64]; omega
  have q2 : IntKind.i64.wrap (x0 * (x1 + 1)) = E := by rw [hE, IntKind.wrap_i64]; omega
  have q3 : IntKind.i64.wrap (E + x2) = E + x2 := by rw [IntKind.wrap_i64]; omega
  have HB := hide (And.intro t1 (And.intro t2 (And.intro t3 (And.intro t4 (And.intro t5 t6)))))
  have HE := hide hE
  have hEn : 0 ≤ E := by omega
  have hx2 : 0 ≤ x2 := by omega
  have hx2' : x2 ≤ 200 := by omega
  clear t1 t2 t3 t4 t5 t6 hE hE1
  go_enter Try.func7, Try.ntmps7
  go_wp2_with fail
  refine (msNew_w x0 x1 x2 hmay w).mono ?_
  rintro e w1 ⟨m, rfl, a1, n1, b1⟩
  have A1 := hide a1
  have B1 := hide b1
  have HN := hide n1
  clear a1 b1 n1 hmay h1 h2 h3 h4 h5 h6
  go_wp2_with fail
  refine (read7 w1).mono ?_
  rintro e w2 ⟨rfl, b2⟩
  have A2 := hide (A1.out.keep b2)
  have B2 := hide (below_on B1.out b2)
  clear b2
  go_wp2_with fail
  refine (msAsk_w w.heap.size m.g m (mNew x0 x1 x2) 1 rdq none 0 w w2 A2.out (Rd.nil _ _) (by decide) (by show (0 : Nat) ≤ 1000000; omega) (Off.none_ _) B2.out B2.out.size rfl).mono ?_
  rintro e w3 ⟨m3, rfl, a3, g3, n3, b3, _, _⟩
  have A3 := hide a3
  have B3 := hide b3
  have HN3 : Hid (m3.n = 0) := hide (n3.trans HN.out)
  have G3 := hide g3
  clear a3 b3 n3 g3
  go_wp2_with fail
  refine (read7 w3).mono ?_
  rintro e w4 ⟨rfl, b4⟩
  have A4 := hide (A3.out.keep b4)
  have B4 := hide (below_on B3.out b4)
  clear b4
  go_wp2_with fail
  refine (msAsk_w w.heap.size m.g m3 _ 1 rdq none 0 w w4 A4.out (Rd.nil _ _) (by decide) (by unfold askS; split <;> simp [mNew]) (Off.none_ _) B4.out B4.out.size G3.out).mono ?_
  rintro e w5 ⟨m5, rfl, a5, g5, n5, b5, _, _⟩
  have X0 : Hid (WW m.g x0 x1 x2 w 0 w5) := hide ⟨m5, _, a5, g5, by rw [n5, HN3.out]; exact Nat.le_refl _, b5, wi_start x0 x1 x2⟩
  clear a5 g5 n5 b5 A1 B1 A2 B2 A3 B3 A4 B4 HN HN3 G3
  generalize m.g = g at *
  go_wp2_with fail
  go_loopw [10] (fun x wr => ∃ n : Nat, x = .int .i64 (n : Int) ∧ (n : Int) ≤ E + x2 + 1 ∧ WW g x0 x1 x2 w n wr) (fun x _ => (E + x2 + 1 - intOf x).toNat)
  case atStart => exact ⟨0, rfl, by omega, X0.out⟩
  case round =>
    obtain ⟨n, rfl, hn, hX⟩ := hrel
    clear X0
    obtain ⟨mm, s, hM, hg, hmn, hbel, hwi⟩ := hX.all
    have HM := hide hM
    have HG := hide hg
    have HMN := hide hmn
    have HBL := hide hbel
    have HWI := hide hwi
    clear hX hM hg hmn hbel hwi
    by_cases hlt : (n : Int) ≤ E + x2
    · have q4 := decide_eq_true hlt
      go_wp2_with fail
      obtain ⟨p1, p2, p3, p4, p5, p6⟩ := HB.out
      have hstep := wi_step (n := n) (by omega) (by omega) (by omega) rfl rfl HWI.out (by rw [HE.out]; exact hlt)
      obtain ⟨hwo, herr, hnext⟩ := hstep
      unfold WO at hwo
      rw [HE.out] at hwo
      have hx0 : ¬ x0 = 0 := by omega
      have hx0' : 1 ≤ x0 := by omega
      clear p1 p2 p3 p4 p5 p6
      refine (msStep_w w.heap.size g mm s n w wr HM.out (by omega) (by have := HMN.out; omega) HBL.out HBL.out.size HG.out).mono ?_
      rintro e w6 ⟨O, P, k, l, rs, ds, m6, rfl, e1, r6, e2, d6, a6, g6, n6, b6, _, _, _, _⟩
      rw [herr]
      have XN : Hid (WW g x0 x1 x2 w (n + 1) w6) := hide ⟨m6, _, a6, g6, by have := HMN.out; omega, b6, by have := hnext; rw [Int.natCast_add, Int.natCast_one]; exact this⟩
      have R6 := hide r6
      have D6 := hide d6
      clear herr hnext a6 g6 n6 b6 r6 d6 HM HG HMN HBL HWI
      rcases hwo with ⟨hA, hD, f1, f2, f3, f4⟩ | ⟨hA, hD, f1, f2, f3, f4⟩ | ⟨hA, hD, f1, f2, f3⟩ | ⟨hA, hD, f1, f2, f3⟩ | ⟨hA, hD, f1, f2, f3⟩ | ⟨hA, hD, f1, f2, f3⟩
      · skip
        rw [hA] at e1
        obtain ⟨y, rfl, ey⟩ := sm_one e1
        obtain ⟨bO, rfl, zO, _⟩ := R6.out.one
        obtain ⟨ytk, yu, yr, yV, yk⟩ := y
        have eyt : ytk = 1 := congrArg Wt.tk ey
        subst eyt
        have s0 : w6.cell? ⟨bO, 0, none⟩ = some (.int .i64 1) := zO.cell 0
        clear ey zO e1 hA R6
        rw [hD] at e2
        obtain rfl := List.map_eq_nil_iff.1 e2
        clear e2 hD D6
        have g1 := decide_eq_true f1
        have g2 : ((n : Int) % x0 == 0) = true := by rw [← Int.tmod_eq_emod_of_nonneg (by omega), f2]; rfl
        have g3 : ((n : Int) == E + x2) = false := ne_beq f3
        have g4 : ((n : Int) == E) = false := ne_beq f4
        clear f1 f2 f3 f4
        go_wp2
        exact ⟨⟨n + 1, by rw [Int.natCast_add]; rfl, by omega, XN.out⟩, by simp only [intOf]; omega⟩
      · skip
        rw [hA] at e1
        obtain rfl := List.map_eq_nil_iff.1 e1
        clear e1 hA R6
        rw [hD] at e2
        obtain rfl := List.map_eq_nil_iff.1 e2
        clear e2 hD D6
        have g1 := decide_eq_true f1
        have g2 : ((n : Int) % x0 == 0) = false := by rw [← Int.tmod_eq_emod_of_nonneg (by omega)]; exact ne_beq f2
        have g3 : ((n : Int) == E + x2) = false := ne_beq f3
        have g4 : ((n : Int) == E) = false := ne_beq f4
        clear f1 f2 f3 f4
        go_wp2
        exact ⟨⟨n + 1, by rw [Int.natCast_add]; rfl, by omega, XN.out⟩, by simp only [intOf]; omega⟩
      · skip
        rw [hA] at e1
        obtain rfl := List.map_eq_nil_iff.1 e1
        clear e1 hA R6
        rw [hD] at e2
        obtain ⟨dd, rfl, ed⟩ := dm_one e2
        obtain ⟨bD, rfl, zD, _⟩ := D6.out.one
        obtain ⟨dtk, dan, dlate, dV, dk⟩ := dd
        have ed1 : dtk = 1 := congrArg Dn.tk ed
        have ed2 : dlate = true := congrArg Dn.late ed
        subst ed1 ed2
        have k0 : w6.cell? ⟨bD, 0, none⟩ = some (.int .i64 1) := zD.cell 0
        have k3 : w6.cell? ⟨bD, 3, none⟩ = some (.bool true) := zD.cell 3
        clear ed zD e2 hD D6
        have g1 : decide ((n : Int) < E) = false := decide_eq_false f1
        have g3 : ((n : Int) == E + x2) = false := ne_beq f3
        have g4 : ((n : Int) == E) = true := by rw [f2]; simp
        clear f1 f2 f3
        go_wp2
        exact ⟨⟨n + 1, by rw [Int.natCast_add]; rfl, by omega, XN.out⟩, by simp only [intOf]; omega⟩
      · skip
        rw [hA] at e1
        obtain ⟨y, rfl, ey⟩ := sm_one e1
        obtain ⟨bO, rfl, zO, _⟩ := R6.out.one
        obtain ⟨ytk, yu, yr, yV, yk⟩ := y
        have eyt : ytk = 2 := congrArg Wt.tk ey
        subst eyt
        have s0 : w6.cell? ⟨bO, 0, none⟩ = some (.int .i64 2) := zO.cell 0
        clear ey zO e1 hA R6
        rw [hD] at e2
        obtain ⟨dd, rfl, ed⟩ := dm_one e2
        obtain ⟨bD, rfl, zD, _⟩ := D6.out.one
        obtain ⟨dtk, dan, dlate, dV, dk⟩ := dd
        have ed1 : dtk = 1 := congrArg Dn.tk ed
        have ed2 : dlate = true := congrArg Dn.late ed
        subst ed1 ed2
        have k0 : w6.cell? ⟨bD, 0, none⟩ = some (.int .i64 1) := zD.cell 0
        have k3 : w6.cell? ⟨bD, 3, none⟩ = some (.bool true) := zD.cell 3
        clear ed zD e2 hD D6
        have g1 : decide ((n : Int) < E) = false := decide_eq_false f1
        have g3 : ((n : Int) == E + x2) = true := by rw [beq_iff_eq]; exact f3
        have g4 : ((n : Int) == E) = true := by rw [beq_iff_eq]; exact f2
        clear f1 f2 f3
        go_wp2
        exact ⟨⟨n + 1, by rw [Int.natCast_add]; rfl, by omega, XN.out⟩, by simp only [intOf]; omega⟩
      · skip
        rw [hA] at e1
        obtain rfl := List.map_eq_nil_iff.1 e1
        clear e1 hA R6
        rw [hD] at e2
        obtain rfl := List.map_eq_nil_iff.1 e2
        clear e2 hD D6
        have g1 : decide ((n : Int) < E) = false := decide_eq_false f1
        have g3 : ((n : Int) == E + x2) = false := ne_beq f3
        have g4 : ((n : Int) == E) = false := ne_beq f2
        clear f1 f2 f3
        go_wp2
        exact ⟨⟨n + 1, by rw [Int.natCast_add]; rfl, by omega, XN.out⟩, by simp only [intOf]; omega⟩
      · skip
        rw [hA] at e1
        obtain ⟨y, rfl, ey⟩ := sm_one e1
        obtain ⟨bO, rfl, zO, _⟩ := R6.out.one
        obtain ⟨ytk, yu, yr, yV, yk⟩ := y
        have eyt : ytk = 2 := congrArg Wt.tk ey
        subst eyt
        have s0 : w6.cell? ⟨bO, 0, none⟩ = some (.int .i64 2) := zO.cell 0
        clear ey zO e1 hA R6
        rw [hD] at e2
        obtain rfl := List.map_eq_nil_iff.1 e2
        clear e2 hD D6
        have g1 : decide ((n : Int) < E) = false := decide_eq_false f1
        have g3 : ((n : Int) == E + x2) = true := by rw [beq_iff_eq]; exact f3
        have g4 : ((n : Int) == E) = false := ne_beq f2
        clear f1 f2 f3
        go_wp2
        exact ⟨⟨n + 1, by rw [Int.natCast_add]; rfl, by omega, XN.out⟩, by simp only [intOf]; omega⟩
    · have q4 : decide ((n : Int) ≤ E + x2) = false := decide_eq_false hlt
      have hne : (n : Int) = E + x2 + 1 := by omega
      go_wp2_with fail
      refine (awake7_any wr).mono ?_
      rintro e w6 ⟨rfl, b6⟩
      have A6 := hide (HM.out.keep b6)
      have B6 := hide (below_on HBL.out b6)
      clear b6
      go_wp2_with fail
      have hcnt := msCount_w w.heap.size g mm s w6 A6.out HG.out
      obtain ⟨p1, p2, p3, p4, p5, p6⟩ := HB.out
      have hend : mCount s = 1 := wi_end (w := x0) (a := x1) (R := x2) (x1 := wx1) (x2 := wx2) (by omega) (by omega) (by omega) (by rw [HE.out, ← hne]; exact HWI.out)
      rw [hend] at hcnt
      clear p1 p2 p3 p4 p5 p6
      refine hcnt.mono ?_
      rintro e w7 ⟨rfl, rfl⟩
      go_wp2
      go_ret
      exact ⟨rfl, B6.out⟩
end Go.Proofs.Ytnialjikpoembaa
