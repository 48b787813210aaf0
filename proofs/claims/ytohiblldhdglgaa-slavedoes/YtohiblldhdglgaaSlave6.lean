/-
  What is proved here: what slave's Do does. Conditions: a slave that lies in memory, its rows words; a request that reads.
-/
import Derived.Test.YtohiblldhdglgaaSlave5
import Derived.Deep.DeepCutAuto
namespace Go.Proofs.Ytohiblldhdglgaa
set_option linter.unusedVariables false
set_option linter.unusedSimpArgs false
open Go.RowKit

/-- A whole struct is stored where one lies; nothing else is turned. -/
theorem op_storeO {P : Program} {w : World} {op : Oper} {a : Act} {K : Act → World → Prop} {Q : Exit → Act → World → Prop} (ty : TypeId) (x y : Operand) (ho : op.op = .store ty x y) (g : Nat) (t : TypeId) (cs cs' : List Value)
    (hx : a.eval x = .pointer (some ⟨g, 0, none⟩)) (hy : a.eval y = .agg (arr cs')) (hB : Blk w g t cs) (hlen : cs.length = cs'.length) (hi : (P.info? ty).map (·.size) = some cs'.length) (h1 : ∀ v ∈ cs', v.oneCell' = true)
    (h : ∀ w', Blk w' g t cs' → Oth g (g + 1) w w' → K (a.put op.dst undef) w') : op.wp P a w K Q := by
  have hr := run_storeVar_row (P := P) w g t ty (arr cs) (arr cs') hB (by rw [arr_size]; exact hi) (by rw [arr_size, arr_size]; exact hlen) (all_oneCell_toArray h1)
  unfold Oper.wp execOp
  simp only [ho, hx, hy, Instr.storeAt, Instr.sureAddr, Sem.run_bind, Sem.run_pure, Result.andThen_ok, hr]
  exact h _ (hB.setRow cs') (Oth.setRow _ _ _)

theorem alloc_step {v U : World} (h : Below v.heap.size v U) (t : TypeId) (cs : List Value) : Blk (U.alloc (.cells (arr cs) t)) U.heap.size t cs ∧ Below U.heap.size U (U.alloc (.cells (arr cs) t)) :=
  ⟨Blk.new U t cs, (Below.refl _ _).alloc (Nat.le_refl _) _⟩

theorem sDo_nil (f a c t an o : Int) (A : Option Addr) (n k : Nat) (w : World) :
    Calls Try.prog 11 #[.pointer none, .agg #[.int .i64 f, .int .i64 a, .int .i64 c, .slice A n k, .int .i64 t, .int .i64 an, .int .i64 o]] w fun e w' => e = .returned (.tuple #[.agg #[.slice none 0 0, .int .i64 0], .int .i64 3]) ∧ Below w.heap.size w w' := by
  go_enter Try.func11, Try.ntmps11
  go_wp2
  obtain ⟨hB, hL⟩ := boxes2 w [.int .i64 f, .int .i64 a, .int .i64 c, .slice A n k, .int .i64 t, .int .i64 an, .int .i64 o] [.slice none 0 0, .int .i64 0] 34 38
  have hB' : Blk ((w.alloc (.cells #[.int .i64 f, .int .i64 a, .int .i64 c, .slice A n k, .int .i64 t, .int .i64 an, .int .i64 o] 34)).alloc (.cells #[.slice none 0 0, .int .i64 0] 38)) (w.heap.size + 1) 38 [.slice none 0 0, .int .i64 0] := hB
  exact bodyPost_ret (results_cell_tmp (a := 4) (b := 5) rfl rfl hB' Try.underlying38 rfl (by kernel_rfl)) rfl ⟨rfl, hL⟩

theorem sDo_no (g : Nat) (f a c t an o : Int) (A : Option Addr) (n k : Nat) (vs : List Int) (w : World) (hv : Rd w A n (iv vs)) (hn : n ≤ 1000000) (hM : mayB f a c vs t an o = false) :
    Calls Try.prog 11 #[.pointer (some ⟨g, 0, none⟩), .agg #[.int .i64 f, .int .i64 a, .int .i64 c, .slice A n k, .int .i64 t, .int .i64 an, .int .i64 o]] w fun e w' => e = .returned (.tuple #[.agg #[.slice none 0 0, .int .i64 0], .int .i64 1]) ∧ Below w.heap.size w w' := by
  have HC := hide (fun W (b : Below w.heap.size w W) => check_any f a c t an o A n k vs W (hv.keep b) hn)
  rw [hM] at HC
  clear hv
  go_enter Try.func11, Try.ntmps11
  go_wp2_with fail
  generalize hV : (w.alloc (.cells #[.int .i64 f, .int .i64 a, .int .i64 c, .slice A n k, .int .i64 t, .int .i64 an, .int .i64 o] 34)).alloc (.cells #[.slice none 0 0, .int .i64 0] 38) = V
  obtain ⟨hB1, hB2, hBel, hsz⟩ := two_boxes w [.int .i64 f, .int .i64 a, .int .i64 c, .slice A n k, .int .i64 t, .int .i64 an, .int .i64 o] [.slice none 0 0, .int .i64 0] 34 38 V hV.symm
  clear hV
  refine (HC.out _ hBel).mono ?_
  rintro e w1 ⟨rfl, b1⟩
  have K1 := hide (hB1.keep b1)
  have J1 := hide (hB2.keep b1)
  have L1 := hide (below_on hBel b1)
  clear hB1 hB2 hBel b1 hsz
  obtain ⟨j0, j1⟩ := J1.out.two
  have jf := J1.out.frozen
  have hz := J1.out.lt
  go_wp2
  have hB := J1.out.set2 (.slice none 0 0) (.int .i64 0)
  (try simp only [Exit.inBlock, Exit.then])
  exact bodyPost_ret (results_cell_tmp (a := 4) (b := 5) rfl rfl hB Try.underlying38 rfl (by kernel_rfl)) rfl ⟨rfl, below_set2 L1.out (by omega) _ _⟩

/-- What Do answers and leaves. -/
def doC (R : Nat → List Int) (f a c n t : Int) : Int := if goesB R f a c n t = true then 0 else 2
def doR (R : Nat → List Int) (f a c : Int) (vs : List Int) (t an o : Int) : Nat → List Int := if goesB R f a c vs.length t = true then nextR R f a vs t an o else R
def doV (R : Nat → List Int) (f a c : Int) (vs : List Int) (t an o : Int) : List Int := if goesB R f a c vs.length t = true then valsL (nextR R f a vs t an o) f a c else []

set_option maxHeartbeats 2000000 in
theorem sDo_ok (lo hi g : Nat) (b : Nat → Nat) (R : Nat → List Int) (f a c t an o : Int) (A : Option Addr) (n k : Nat) (vs : List Int) (w : World) (h : SlA 58 lo hi w g b R) (hw : wellR R) (hv : Rd w A n (iv vs)) (hn : n ≤ 1000000) (hM : mayB f a c vs t an o = true) :
    Calls Try.prog 11 #[.pointer (some ⟨g, 0, none⟩), .agg #[.int .i64 f, .int .i64 a, .int .i64 c, .slice A n k, .int .i64 t, .int .i64 an, .int .i64 o]] w fun e w' =>
      ∃ C m, e = .returned (.tuple #[.agg #[.slice C (doV R f a c vs t an o).length m, .int .i64 (doC R f a c n t)], .int .i64 0]) ∧ (doV R f a c vs t an o).length ≤ m ∧ Rd w' C (doV R f a c vs t an o).length (iv (doV R f a c vs t an o)) ∧ NewA w C ∧
        SlA 58 lo hi w' g b (doR R f a c vs t an o) ∧ Oth lo hi w w' := by
  have HC := hide (fun W (b : Below w.heap.size w W) => check_any f a c t an o A n k vs W (hv.keep b) hn)
  rw [hM] at HC
  have HR := hide (fun W => readBy_any f a c t an o A n k W)
  have HW := hide (fun W => writtenBy_any f a c t an o A n k W)
  have H1 := hide h
  have HV := hide hv
  have HM := hide hM
  clear hv h hM
  go_enter Try.func11, Try.ntmps11
  go_wp2_with fail
  generalize hV : (w.alloc (.cells #[.int .i64 f, .int .i64 a, .int .i64 c, .slice A n k, .int .i64 t, .int .i64 an, .int .i64 o] 34)).alloc (.cells #[.slice none 0 0, .int .i64 0] 38) = V
  obtain ⟨hB1, hB2, hBel, hsz⟩ := two_boxes w [.int .i64 f, .int .i64 a, .int .i64 c, .slice A n k, .int .i64 t, .int .i64 an, .int .i64 o] [.slice none 0 0, .int .i64 0] 34 38 V hV.symm
  clear hV
  refine (HC.out _ hBel).mono ?_
  rintro e w1 ⟨rfl, b1⟩
  have K1 := hide (hB1.keep b1)
  have J1 := hide (hB2.keep b1)
  have L1 := hide (below_on hBel b1)
  clear hB1 hB2 hBel b1 hsz
  obtain ⟨k0, k1, k2, k3, k4, k5, k6⟩ := K1.out.seven
  generalize hrd : rdS f a c = rd at *
  generalize hwr : wrS f a n t = wr at *
  have HRD := hide hrd
  have HWR := hide hwr
  clear hrd hwr
  obtain ⟨rk, ra, rc⟩ := rd
  obtain ⟨wk, wa, wc'⟩ := wr
  have q0 : ∀ w', Below w1.heap.size w1 w' → w'.cell? ⟨w.heap.size, 0, none⟩ = some (.int .i64 f) ∧ w'.cell? ⟨w.heap.size, 1, none⟩ = some (.int .i64 a) ∧ w'.cell? ⟨w.heap.size, 2, none⟩ = some (.int .i64 c) ∧ w'.cell? ⟨w.heap.size, 3, none⟩ = some (.slice A n k) ∧ w'.cell? ⟨w.heap.size, 4, none⟩ = some (.int .i64 t) ∧ w'.cell? ⟨w.heap.size, 5, none⟩ = some (.int .i64 an) ∧ w'.cell? ⟨w.heap.size, 6, none⟩ = some (.int .i64 o) := fun w' b => (K1.out.keep b).seven
  go_upto_region 6 with (fail)
  go_cut [7, 8] (fun s7 s8 U => ∃ g7 g8 : Nat, s7 = .pointer (some ⟨g7, 0, none⟩) ∧ s8 = .pointer (some ⟨g8, 0, none⟩) ∧ Blk U g7 62 [.int .i64 rk, .int .i64 ra, .int .i64 rc] ∧ Blk U g8 62 [.int .i64 wk, .int .i64 wa, .int .i64 wc'] ∧ Below w1.heap.size w1 U ∧ w1.heap.size ≤ g7 ∧ w1.heap.size ≤ g8)
  case first =>
    go_wp2_with fail
    clear J1 HV HM HC HRD HWR
    refine wp_region_held_drew (S := fun w' => Below w1.heap.size w1 w') (by kernel_rfl) ?_ (fun hHeld => ?_)
    · exact (Below.refl _ _).drew
    refine wpAnyH_take (i := 0) (oi := { dst := some 18, op := _, type := _, pos := _, after := _, guard := _ }) (v := ?v1x1) rfl (by kernel_rfl) (by kernel_rfl) (by kernel_rfl) (fun _ _ _ h => h) (Or.inl ⟨by rfl, ?hy1x1⟩) hHeld ?rest1x1
    case hy1x1 => (intro w hSw; go_simp <;> with_reducible rfl)
    try simp only [Act.put, List.setIfInBounds_toArray, List.set_cons_zero, List.set_cons_succ]
    refine wpAnyH_take (i := 2) (oi := { dst := some 20, op := _, type := _, pos := _, after := _, guard := _ }) (v := ?v1x2) rfl (by kernel_rfl) (by kernel_rfl) (by kernel_rfl) (fun _ _ _ h => h) (Or.inl ⟨by rfl, ?hy1x2⟩) hHeld ?rest1x2
    case hy1x2 => (intro w hSw; go_simp <;> with_reducible rfl)
    try simp only [Act.put, List.setIfInBounds_toArray, List.set_cons_zero, List.set_cons_succ]
    refine wpAnyH_ready (rs := [1, 4, 5]) (by kernel_rfl) (by simp) (AllReadyH.cons (o := { dst := some 19, op := _, type := _, pos := _, after := _, guard := _ }) rfl (fun K hK => ?way1x3x1) (AllReadyH.cons (o := { dst := some 7, op := _, type := _, pos := _, after := _, guard := _ }) rfl (fun K hK => ?way1x3x4) (AllReadyH.cons (o := { dst := some 8, op := _, type := _, pos := _, after := _, guard := _ }) rfl (fun K hK => ?way1x3x5) AllReadyH.nil)))
    case' way1x3x1 =>
      go_simp
      refine (HR.out _).mono ?_
      rintro e U ⟨rfl, bU⟩
      try (replace Z7 := hide (Z7.out.keep bU))
      try (replace Z8 := hide (Z8.out.keep bU))
      go_wp2_with fail
      refine hK.out _ _ ?_ (fun hHeld => ?_)
      · exact below_on hHeld bU
      clear hK K
      try simp only [Act.put, List.setIfInBounds_toArray, List.set_cons_zero, List.set_cons_succ]
      refine wpAnyH_ready (rs := [3, 4, 5]) (by kernel_rfl) (by simp) (AllReadyH.cons (o := { dst := some 21, op := _, type := _, pos := _, after := _, guard := _ }) rfl (fun K hK => ?way1x4x3) (AllReadyH.cons (o := { dst := some 7, op := _, type := _, pos := _, after := _, guard := _ }) rfl (fun K hK => ?way1x4x4) (AllReadyH.cons (o := { dst := some 8, op := _, type := _, pos := _, after := _, guard := _ }) rfl (fun K hK => ?way1x4x5) AllReadyH.nil)))
      case' way1x4x3 =>
        go_simp
        refine (HW.out _).mono ?_
        rintro e U ⟨rfl, bU⟩
        try (replace Z7 := hide (Z7.out.keep bU))
        try (replace Z8 := hide (Z8.out.keep bU))
        go_wp2_with fail
        refine hK.out _ _ ?_ (fun hHeld => ?_)
        · exact below_on hHeld bU
        clear hK K
        try simp only [Act.put, List.setIfInBounds_toArray, List.set_cons_zero, List.set_cons_succ]
        refine wpAnyH_ready (rs := [4, 5]) (by kernel_rfl) (by simp) (AllReadyH.cons (o := { dst := some 7, op := _, type := _, pos := _, after := _, guard := _ }) rfl (fun K hK => ?way1x5x4) (AllReadyH.cons (o := { dst := some 8, op := _, type := _, pos := _, after := _, guard := _ }) rfl (fun K hK => ?way1x5x5) AllReadyH.nil))
        case' way1x5x4 =>
          go_simp
          have N4 := alloc_step hHeld 62 [.int .i64 0, .int .i64 0, .int .i64 0]
          have ge7 := hide hHeld.size
          try (have ne78 := hide (Nat.ne_of_lt Z8.out.lt))
          try (replace Z8 := hide (Z8.out.keep N4.2))
          have Z7 := hide N4.1
          (try simp only [World.size_alloc, World.size_drew] at Z7)
          (try simp only [World.size_alloc, World.size_drew] at ge7)
          (try simp only [World.size_alloc, World.size_drew] at ne78)
          go_wp2_with fail
          refine hK.out _ _ ?_ (fun hHeld => ?_)
          · exact hHeld.alloc hHeld.size _
          clear hK K
          try simp only [Act.put, List.setIfInBounds_toArray, List.set_cons_zero, List.set_cons_succ]
          refine wpAnyH_ready (rs := [5]) (by kernel_rfl) (by simp) (AllReadyH.cons (o := { dst := some 8, op := _, type := _, pos := _, after := _, guard := _ }) rfl (fun K hK => ?_) AllReadyH.nil)
          go_simp
          have N5 := alloc_step hHeld 62 [.int .i64 0, .int .i64 0, .int .i64 0]
          have ge8 := hide hHeld.size
          try (have ne78 := hide (Nat.ne_of_gt Z7.out.lt))
          try (replace Z7 := hide (Z7.out.keep N5.2))
          have Z8 := hide N5.1
          (try simp only [World.size_alloc, World.size_drew] at Z8)
          (try simp only [World.size_alloc, World.size_drew] at ge8)
          (try simp only [World.size_alloc, World.size_drew] at ne78)
          go_wp2_with fail
          refine hK.out _ _ ?_ (fun hHeld => ?_)
          · exact hHeld.alloc hHeld.size _
          clear hK K
          try simp only [Act.put, List.setIfInBounds_toArray, List.set_cons_zero, List.set_cons_succ]
          refine wpAnyH_ready (rs := [6]) (by kernel_rfl) (by simp) (AllReadyH.cons (o := { dst := none, op := _, type := _, pos := _, after := _, guard := _ }) rfl (fun K hK => ?_) AllReadyH.nil)
          rw [if_pos (by rfl)]
          refine op_storeO 62 (.tmp 7) (.tmp 19) rfl _ 62 [.int .i64 0, .int .i64 0, .int .i64 0] [.int .i64 rk, .int .i64 ra, .int .i64 rc] rfl rfl Z7.out rfl (by kernel_rfl) (by intro v hv; simp at hv; rcases hv with rfl | rfl | rfl <;> rfl) ?_
          intro U z7 oU
          have Y7 := hide z7
          have Y8 := hide (Z8.out.out oU (by have := ne78.out; omega))
          have l6 := below_out hHeld oU ge7.out hHeld.size
          refine hK.out _ _ ?_ (fun hHeld => ?_)
          · exact l6
          clear hK K
          try simp only [Act.put, List.setIfInBounds_toArray, List.set_cons_zero, List.set_cons_succ]
          refine wpAnyH_ready (rs := [7]) (by kernel_rfl) (by simp) (AllReadyH.cons (o := { dst := none, op := _, type := _, pos := _, after := _, guard := _ }) rfl (fun K hK => ?_) AllReadyH.nil)
          rw [if_pos (by rfl)]
          refine op_storeO 62 (.tmp 8) (.tmp 21) rfl _ 62 [.int .i64 0, .int .i64 0, .int .i64 0] [.int .i64 wk, .int .i64 wa, .int .i64 wc'] rfl rfl Y8.out rfl (by kernel_rfl) (by intro v hv; simp at hv; rcases hv with rfl | rfl | rfl <;> rfl) ?_
          intro U z8 oU
          have X8 := hide z8
          have X7 := hide (Y7.out.out oU (by have := ne78.out; omega))
          have l7 := below_out hHeld oU ge8.out hHeld.size
          refine hK.out _ _ ?_ (fun hHeld => ?_)
          · exact l7
          clear hK K
          try simp only [Act.put, List.setIfInBounds_toArray, List.set_cons_zero, List.set_cons_succ]
          refine wpAnyH_done (by kernel_rfl) ?_ _
        case' way1x5x5 =>
          go_simp
          have N5 := alloc_step hHeld 62 [.int .i64 0, .int .i64 0, .int .i64 0]
          have ge8 := hide hHeld.size
          try (have ne78 := hide (Nat.ne_of_gt Z7.out.lt))
          try (replace Z7 := hide (Z7.out.keep N5.2))
          have Z8 := hide N5.1
          (try simp only [World.size_alloc, World.size_drew] at Z8)
          (try simp only [World.size_alloc, World.size_drew] at ge8)
          (try simp only [World.size_alloc, World.size_drew] at ne78)
          go_wp2_with fail
          refine hK.out _ _ ?_ (fun hHeld => ?_)
          · exact hHeld.alloc hHeld.size _
          clear hK K
          try simp only [Act.put, List.setIfInBounds_toArray, List.set_cons_zero, List.set_cons_succ]
          refine wpAnyH_ready (rs := [4]) (by kernel_rfl) (by simp) (AllReadyH.cons (o := { dst := some 7, op := _, type := _, pos := _, after := _, guard := _ }) rfl (fun K hK => ?_) AllReadyH.nil)
          go_simp
          have N4 := alloc_step hHeld 62 [.int .i64 0, .int .i64 0, .int .i64 0]
          have ge7 := hide hHeld.size
          try (have ne78 := hide (Nat.ne_of_lt Z8.out.lt))
          try (replace Z8 := hide (Z8.out.keep N4.2))
          have Z7 := hide N4.1
          (try simp only [World.size_alloc, World.size_drew] at Z7)
          (try simp only [World.size_alloc, World.size_drew] at ge7)
          (try simp only [World.size_alloc, World.size_drew] at ne78)
          go_wp2_with fail
          refine hK.out _ _ ?_ (fun hHeld => ?_)
          · exact hHeld.alloc hHeld.size _
          clear hK K
          try simp only [Act.put, List.setIfInBounds_toArray, List.set_cons_zero, List.set_cons_succ]
          refine wpAnyH_ready (rs := [6]) (by kernel_rfl) (by simp) (AllReadyH.cons (o := { dst := none, op := _, type := _, pos := _, after := _, guard := _ }) rfl (fun K hK => ?_) AllReadyH.nil)
          rw [if_pos (by rfl)]
          refine op_storeO 62 (.tmp 7) (.tmp 19) rfl _ 62 [.int .i64 0, .int .i64 0, .int .i64 0] [.int .i64 rk, .int .i64 ra, .int .i64 rc] rfl rfl Z7.out rfl (by kernel_rfl) (by intro v hv; simp at hv; rcases hv with rfl | rfl | rfl <;> rfl) ?_
          intro U z7 oU
          have Y7 := hide z7
          have Y8 := hide (Z8.out.out oU (by have := ne78.out; omega))
          have l6 := below_out hHeld oU ge7.out hHeld.size
          refine hK.out _ _ ?_ (fun hHeld => ?_)
          · exact l6
          clear hK K
          try simp only [Act.put, List.setIfInBounds_toArray, List.set_cons_zero, List.set_cons_succ]
          refine wpAnyH_ready (rs := [7]) (by kernel_rfl) (by simp) (AllReadyH.cons (o := { dst := none, op := _, type := _, pos := _, after := _, guard := _ }) rfl (fun K hK => ?_) AllReadyH.nil)
          rw [if_pos (by rfl)]
          refine op_storeO 62 (.tmp 8) (.tmp 21) rfl _ 62 [.int .i64 0, .int .i64 0, .int .i64 0] [.int .i64 wk, .int .i64 wa, .int .i64 wc'] rfl rfl Y8.out rfl (by kernel_rfl) (by intro v hv; simp at hv; rcases hv with rfl | rfl | rfl <;> rfl) ?_
          intro U z8 oU
          have X8 := hide z8
          have X7 := hide (Y7.out.out oU (by have := ne78.out; omega))
          have l7 := below_out hHeld oU ge8.out hHeld.size
          refine hK.out _ _ ?_ (fun hHeld => ?_)
          · exact l7
          clear hK K
          try simp only [Act.put, List.setIfInBounds_toArray, List.set_cons_zero, List.set_cons_succ]
          refine wpAnyH_done (by kernel_rfl) ?_ _
      case' way1x4x4 =>
        go_simp
        have N4 := alloc_step hHeld 62 [.int .i64 0, .int .i64 0, .int .i64 0]
        have ge7 := hide hHeld.size
        try (have ne78 := hide (Nat.ne_of_lt Z8.out.lt))
        try (replace Z8 := hide (Z8.out.keep N4.2))
        have Z7 := hide N4.1
        (try simp only [World.size_alloc, World.size_drew] at Z7)
        (try simp only [World.size_alloc, World.size_drew] at ge7)
        (try simp only [World.size_alloc, World.size_drew] at ne78)
        go_wp2_with fail
        refine hK.out _ _ ?_ (fun hHeld => ?_)
        · exact hHeld.alloc hHeld.size _
        clear hK K
        try simp only [Act.put, List.setIfInBounds_toArray, List.set_cons_zero, List.set_cons_succ]
        refine wpAnyH_ready (rs := [3, 5]) (by kernel_rfl) (by simp) (AllReadyH.cons (o := { dst := some 21, op := _, type := _, pos := _, after := _, guard := _ }) rfl (fun K hK => ?way1x12x3) (AllReadyH.cons (o := { dst := some 8, op := _, type := _, pos := _, after := _, guard := _ }) rfl (fun K hK => ?way1x12x5) AllReadyH.nil))
        case' way1x12x3 =>
          go_simp
          refine (HW.out _).mono ?_
          rintro e U ⟨rfl, bU⟩
          try (replace Z7 := hide (Z7.out.keep bU))
          try (replace Z8 := hide (Z8.out.keep bU))
          go_wp2_with fail
          refine hK.out _ _ ?_ (fun hHeld => ?_)
          · exact below_on hHeld bU
          clear hK K
          try simp only [Act.put, List.setIfInBounds_toArray, List.set_cons_zero, List.set_cons_succ]
          refine wpAnyH_ready (rs := [5]) (by kernel_rfl) (by simp) (AllReadyH.cons (o := { dst := some 8, op := _, type := _, pos := _, after := _, guard := _ }) rfl (fun K hK => ?_) AllReadyH.nil)
          go_simp
          have N5 := alloc_step hHeld 62 [.int .i64 0, .int .i64 0, .int .i64 0]
          have ge8 := hide hHeld.size
          try (have ne78 := hide (Nat.ne_of_gt Z7.out.lt))
          try (replace Z7 := hide (Z7.out.keep N5.2))
          have Z8 := hide N5.1
          (try simp only [World.size_alloc, World.size_drew] at Z8)
          (try simp only [World.size_alloc, World.size_drew] at ge8)
          (try simp only [World.size_alloc, World.size_drew] at ne78)
          go_wp2_with fail
          refine hK.out _ _ ?_ (fun hHeld => ?_)
          · exact hHeld.alloc hHeld.size _
          clear hK K
          try simp only [Act.put, List.setIfInBounds_toArray, List.set_cons_zero, List.set_cons_succ]
          refine wpAnyH_ready (rs := [6]) (by kernel_rfl) (by simp) (AllReadyH.cons (o := { dst := none, op := _, type := _, pos := _, after := _, guard := _ }) rfl (fun K hK => ?_) AllReadyH.nil)
          rw [if_pos (by rfl)]
          refine op_storeO 62 (.tmp 7) (.tmp 19) rfl _ 62 [.int .i64 0, .int .i64 0, .int .i64 0] [.int .i64 rk, .int .i64 ra, .int .i64 rc] rfl rfl Z7.out rfl (by kernel_rfl) (by intro v hv; simp at hv; rcases hv with rfl | rfl | rfl <;> rfl) ?_
          intro U z7 oU
          have Y7 := hide z7
          have Y8 := hide (Z8.out.out oU (by have := ne78.out; omega))
          have l6 := below_out hHeld oU ge7.out hHeld.size
          refine hK.out _ _ ?_ (fun hHeld => ?_)
          · exact l6
          clear hK K
          try simp only [Act.put, List.setIfInBounds_toArray, List.set_cons_zero, List.set_cons_succ]
          refine wpAnyH_ready (rs := [7]) (by kernel_rfl) (by simp) (AllReadyH.cons (o := { dst := none, op := _, type := _, pos := _, after := _, guard := _ }) rfl (fun K hK => ?_) AllReadyH.nil)
          rw [if_pos (by rfl)]
          refine op_storeO 62 (.tmp 8) (.tmp 21) rfl _ 62 [.int .i64 0, .int .i64 0, .int .i64 0] [.int .i64 wk, .int .i64 wa, .int .i64 wc'] rfl rfl Y8.out rfl (by kernel_rfl) (by intro v hv; simp at hv; rcases hv with rfl | rfl | rfl <;> rfl) ?_
          intro U z8 oU
          have X8 := hide z8
          have X7 := hide (Y7.out.out oU (by have := ne78.out; omega))
          have l7 := below_out hHeld oU ge8.out hHeld.size
          refine hK.out _ _ ?_ (fun hHeld => ?_)
          · exact l7
          clear hK K
          try simp only [Act.put, List.setIfInBounds_toArray, List.set_cons_zero, List.set_cons_succ]
          refine wpAnyH_done (by kernel_rfl) ?_ _
        case' way1x12x5 =>
          go_simp
          have N5 := alloc_step hHeld 62 [.int .i64 0, .int .i64 0, .int .i64 0]
          have ge8 := hide hHeld.size
          try (have ne78 := hide (Nat.ne_of_gt Z7.out.lt))
          try (replace Z7 := hide (Z7.out.keep N5.2))
          have Z8 := hide N5.1
          (try simp only [World.size_alloc, World.size_drew] at Z8)
          (try simp only [World.size_alloc, World.size_drew] at ge8)
          (try simp only [World.size_alloc, World.size_drew] at ne78)
          go_wp2_with fail
          refine hK.out _ _ ?_ (fun hHeld => ?_)
          · exact hHeld.alloc hHeld.size _
          clear hK K
          try simp only [Act.put, List.setIfInBounds_toArray, List.set_cons_zero, List.set_cons_succ]
          refine wpAnyH_ready (rs := [3]) (by kernel_rfl) (by simp) (AllReadyH.cons (o := { dst := some 21, op := _, type := _, pos := _, after := _, guard := _ }) rfl (fun K hK => ?_) AllReadyH.nil)
          go_simp
          refine (HW.out _).mono ?_
          rintro e U ⟨rfl, bU⟩
          try (replace Z7 := hide (Z7.out.keep bU))
          try (replace Z8 := hide (Z8.out.keep bU))
          go_wp2_with fail
          refine hK.out _ _ ?_ (fun hHeld => ?_)
          · exact below_on hHeld bU
          clear hK K
          try simp only [Act.put, List.setIfInBounds_toArray, List.set_cons_zero, List.set_cons_succ]
          refine wpAnyH_ready (rs := [6]) (by kernel_rfl) (by simp) (AllReadyH.cons (o := { dst := none, op := _, type := _, pos := _, after := _, guard := _ }) rfl (fun K hK => ?_) AllReadyH.nil)
          rw [if_pos (by rfl)]
          refine op_storeO 62 (.tmp 7) (.tmp 19) rfl _ 62 [.int .i64 0, .int .i64 0, .int .i64 0] [.int .i64 rk, .int .i64 ra, .int .i64 rc] rfl rfl Z7.out rfl (by kernel_rfl) (by intro v hv; simp at hv; rcases hv with rfl | rfl | rfl <;> rfl) ?_
          intro U z7 oU
          have Y7 := hide z7
          have Y8 := hide (Z8.out.out oU (by have := ne78.out; omega))
          have l6 := below_out hHeld oU ge7.out hHeld.size
          refine hK.out _ _ ?_ (fun hHeld => ?_)
          · exact l6
          clear hK K
          try simp only [Act.put, List.setIfInBounds_toArray, List.set_cons_zero, List.set_cons_succ]
          refine wpAnyH_ready (rs := [7]) (by kernel_rfl) (by simp) (AllReadyH.cons (o := { dst := none, op := _, type := _, pos := _, after := _, guard := _ }) rfl (fun K hK => ?_) AllReadyH.nil)
          rw [if_pos (by rfl)]
          refine op_storeO 62 (.tmp 8) (.tmp 21) rfl _ 62 [.int .i64 0, .int .i64 0, .int .i64 0] [.int .i64 wk, .int .i64 wa, .int .i64 wc'] rfl rfl Y8.out rfl (by kernel_rfl) (by intro v hv; simp at hv; rcases hv with rfl | rfl | rfl <;> rfl) ?_
          intro U z8 oU
          have X8 := hide z8
          have X7 := hide (Y7.out.out oU (by have := ne78.out; omega))
          have l7 := below_out hHeld oU ge8.out hHeld.size
          refine hK.out _ _ ?_ (fun hHeld => ?_)
          · exact l7
          clear hK K
          try simp only [Act.put, List.setIfInBounds_toArray, List.set_cons_zero, List.set_cons_succ]
          refine wpAnyH_done (by kernel_rfl) ?_ _
      case' way1x4x5 =>
        go_simp
        have N5 := alloc_step hHeld 62 [.int .i64 0, .int .i64 0, .int .i64 0]
        have ge8 := hide hHeld.size
        try (have ne78 := hide (Nat.ne_of_gt Z7.out.lt))
        try (replace Z7 := hide (Z7.out.keep N5.2))
        have Z8 := hide N5.1
        (try simp only [World.size_alloc, World.size_drew] at Z8)
        (try simp only [World.size_alloc, World.size_drew] at ge8)
        (try simp only [World.size_alloc, World.size_drew] at ne78)
        go_wp2_with fail
        refine hK.out _ _ ?_ (fun hHeld => ?_)
        · exact hHeld.alloc hHeld.size _
        clear hK K
        try simp only [Act.put, List.setIfInBounds_toArray, List.set_cons_zero, List.set_cons_succ]
        refine wpAnyH_ready (rs := [3, 4]) (by kernel_rfl) (by simp) (AllReadyH.cons (o := { dst := some 21, op := _, type := _, pos := _, after := _, guard := _ }) rfl (fun K hK => ?way1x19x3) (AllReadyH.cons (o := { dst := some 7, op := _, type := _, pos := _, after := _, guard := _ }) rfl (fun K hK => ?way1x19x4) AllReadyH.nil))
        case' way1x19x3 =>
          go_simp
          refine (HW.out _).mono ?_
          rintro e U ⟨rfl, bU⟩
          try (replace Z7 := hide (Z7.out.keep bU))
          try (replace Z8 := hide (Z8.out.keep bU))
          go_wp2_with fail
          refine hK.out _ _ ?_ (fun hHeld => ?_)
          · exact below_on hHeld bU
          clear hK K
          try simp only [Act.put, List.setIfInBounds_toArray, List.set_cons_zero, List.set_cons_succ]
          refine wpAnyH_ready (rs := [4]) (by kernel_rfl) (by simp) (AllReadyH.cons (o := { dst := some 7, op := _, type := _, pos := _, after := _, guard := _ }) rfl (fun K hK => ?_) AllReadyH.nil)
          go_simp
          have N4 := alloc_step hHeld 62 [.int .i64 0, .int .i64 0, .int .i64 0]
          have ge7 := hide hHeld.size
          try (have ne78 := hide (Nat.ne_of_lt Z8.out.lt))
          try (replace Z8 := hide (Z8.out.keep N4.2))
          have Z7 := hide N4.1
          (try simp only [World.size_alloc, World.size_drew] at Z7)
          (try simp only [World.size_alloc, World.size_drew] at ge7)
          (try simp only [World.size_alloc, World.size_drew] at ne78)
          go_wp2_with fail
          refine hK.out _ _ ?_ (fun hHeld => ?_)
          · exact hHeld.alloc hHeld.size _
          clear hK K
          try simp only [Act.put, List.setIfInBounds_toArray, List.set_cons_zero, List.set_cons_succ]
          refine wpAnyH_ready (rs := [6]) (by kernel_rfl) (by simp) (AllReadyH.cons (o := { dst := none, op := _, type := _, pos := _, after := _, guard := _ }) rfl (fun K hK => ?_) AllReadyH.nil)
          rw [if_pos (by rfl)]
          refine op_storeO 62 (.tmp 7) (.tmp 19) rfl _ 62 [.int .i64 0, .int .i64 0, .int .i64 0] [.int .i64 rk, .int .i64 ra, .int .i64 rc] rfl rfl Z7.out rfl (by kernel_rfl) (by intro v hv; simp at hv; rcases hv with rfl | rfl | rfl <;> rfl) ?_
          intro U z7 oU
          have Y7 := hide z7
          have Y8 := hide (Z8.out.out oU (by have := ne78.out; omega))
          have l6 := below_out hHeld oU ge7.out hHeld.size
          refine hK.out _ _ ?_ (fun hHeld => ?_)
          · exact l6
          clear hK K
          try simp only [Act.put, List.setIfInBounds_toArray, List.set_cons_zero, List.set_cons_succ]
          refine wpAnyH_ready (rs := [7]) (by kernel_rfl) (by simp) (AllReadyH.cons (o := { dst := none, op := _, type := _, pos := _, after := _, guard := _ }) rfl (fun K hK => ?_) AllReadyH.nil)
          rw [if_pos (by rfl)]
          refine op_storeO 62 (.tmp 8) (.tmp 21) rfl _ 62 [.int .i64 0, .int .i64 0, .int .i64 0] [.int .i64 wk, .int .i64 wa, .int .i64 wc'] rfl rfl Y8.out rfl (by kernel_rfl) (by intro v hv; simp at hv; rcases hv with rfl | rfl | rfl <;> rfl) ?_
          intro U z8 oU
          have X8 := hide z8
          have X7 := hide (Y7.out.out oU (by have := ne78.out; omega))
          have l7 := below_out hHeld oU ge8.out hHeld.size
          refine hK.out _ _ ?_ (fun hHeld => ?_)
          · exact l7
          clear hK K
          try simp only [Act.put, List.setIfInBounds_toArray, List.set_cons_zero, List.set_cons_succ]
          refine wpAnyH_done (by kernel_rfl) ?_ _
        case' way1x19x4 =>
          go_simp
          have N4 := alloc_step hHeld 62 [.int .i64 0, .int .i64 0, .int .i64 0]
          have ge7 := hide hHeld.size
          try (have ne78 := hide (Nat.ne_of_lt Z8.out.lt))
          try (replace Z8 := hide (Z8.out.keep N4.2))
          have Z7 := hide N4.1
          (try simp only [World.size_alloc, World.size_drew] at Z7)
          (try simp only [World.size_alloc, World.size_drew] at ge7)
          (try simp only [World.size_alloc, World.size_drew] at ne78)
          go_wp2_with fail
          refine hK.out _ _ ?_ (fun hHeld => ?_)
          · exact hHeld.alloc hHeld.size _
          clear hK K
          try simp only [Act.put, List.setIfInBounds_toArray, List.set_cons_zero, List.set_cons_succ]
          refine wpAnyH_ready (rs := [3]) (by kernel_rfl) (by simp) (AllReadyH.cons (o := { dst := some 21, op := _, type := _, pos := _, after := _, guard := _ }) rfl (fun K hK => ?_) AllReadyH.nil)
          go_simp
          refine (HW.out _).mono ?_
          rintro e U ⟨rfl, bU⟩
          try (replace Z7 := hide (Z7.out.keep bU))
          try (replace Z8 := hide (Z8.out.keep bU))
          go_wp2_with fail
          refine hK.out _ _ ?_ (fun hHeld => ?_)
          · exact below_on hHeld bU
          clear hK K
          try simp only [Act.put, List.setIfInBounds_toArray, List.set_cons_zero, List.set_cons_succ]
          refine wpAnyH_ready (rs := [6]) (by kernel_rfl) (by simp) (AllReadyH.cons (o := { dst := none, op := _, type := _, pos := _, after := _, guard := _ }) rfl (fun K hK => ?_) AllReadyH.nil)
          rw [if_pos (by rfl)]
          refine op_storeO 62 (.tmp 7) (.tmp 19) rfl _ 62 [.int .i64 0, .int .i64 0, .int .i64 0] [.int .i64 rk, .int .i64 ra, .int .i64 rc] rfl rfl Z7.out rfl (by kernel_rfl) (by intro v hv; simp at hv; rcases hv with rfl | rfl | rfl <;> rfl) ?_
          intro U z7 oU
          have Y7 := hide z7
          have Y8 := hide (Z8.out.out oU (by have := ne78.out; omega))
          have l6 := below_out hHeld oU ge7.out hHeld.size
          refine hK.out _ _ ?_ (fun hHeld => ?_)
          · exact l6
          clear hK K
          try simp only [Act.put, List.setIfInBounds_toArray, List.set_cons_zero, List.set_cons_succ]
          refine wpAnyH_ready (rs := [7]) (by kernel_rfl) (by simp) (AllReadyH.cons (o := { dst := none, op := _, type := _, pos := _, after := _, guard := _ }) rfl (fun K hK => ?_) AllReadyH.nil)
          rw [if_pos (by rfl)]
          refine op_storeO 62 (.tmp 8) (.tmp 21) rfl _ 62 [.int .i64 0, .int .i64 0, .int .i64 0] [.int .i64 wk, .int .i64 wa, .int .i64 wc'] rfl rfl Y8.out rfl (by kernel_rfl) (by intro v hv; simp at hv; rcases hv with rfl | rfl | rfl <;> rfl) ?_
          intro U z8 oU
          have X8 := hide z8
          have X7 := hide (Y7.out.out oU (by have := ne78.out; omega))
          have l7 := below_out hHeld oU ge8.out hHeld.size
          refine hK.out _ _ ?_ (fun hHeld => ?_)
          · exact l7
          clear hK K
          try simp only [Act.put, List.setIfInBounds_toArray, List.set_cons_zero, List.set_cons_succ]
          refine wpAnyH_done (by kernel_rfl) ?_ _
    case' way1x3x4 =>
      go_simp
      have N4 := alloc_step hHeld 62 [.int .i64 0, .int .i64 0, .int .i64 0]
      have ge7 := hide hHeld.size
      try (have ne78 := hide (Nat.ne_of_lt Z8.out.lt))
      try (replace Z8 := hide (Z8.out.keep N4.2))
      have Z7 := hide N4.1
      (try simp only [World.size_alloc, World.size_drew] at Z7)
      (try simp only [World.size_alloc, World.size_drew] at ge7)
      (try simp only [World.size_alloc, World.size_drew] at ne78)
      go_wp2_with fail
      refine hK.out _ _ ?_ (fun hHeld => ?_)
      · exact hHeld.alloc hHeld.size _
      clear hK K
      try simp only [Act.put, List.setIfInBounds_toArray, List.set_cons_zero, List.set_cons_succ]
      refine wpAnyH_ready (rs := [1, 5]) (by kernel_rfl) (by simp) (AllReadyH.cons (o := { dst := some 19, op := _, type := _, pos := _, after := _, guard := _ }) rfl (fun K hK => ?way1x26x1) (AllReadyH.cons (o := { dst := some 8, op := _, type := _, pos := _, after := _, guard := _ }) rfl (fun K hK => ?way1x26x5) AllReadyH.nil))
      case' way1x26x1 =>
        go_simp
        refine (HR.out _).mono ?_
        rintro e U ⟨rfl, bU⟩
        try (replace Z7 := hide (Z7.out.keep bU))
        try (replace Z8 := hide (Z8.out.keep bU))
        go_wp2_with fail
        refine hK.out _ _ ?_ (fun hHeld => ?_)
        · exact below_on hHeld bU
        clear hK K
        try simp only [Act.put, List.setIfInBounds_toArray, List.set_cons_zero, List.set_cons_succ]
        refine wpAnyH_ready (rs := [3, 5]) (by kernel_rfl) (by simp) (AllReadyH.cons (o := { dst := some 21, op := _, type := _, pos := _, after := _, guard := _ }) rfl (fun K hK => ?way1x27x3) (AllReadyH.cons (o := { dst := some 8, op := _, type := _, pos := _, after := _, guard := _ }) rfl (fun K hK => ?way1x27x5) AllReadyH.nil))
        case' way1x27x3 =>
          go_simp
          refine (HW.out _).mono ?_
          rintro e U ⟨rfl, bU⟩
          try (replace Z7 := hide (Z7.out.keep bU))
          try (replace Z8 := hide (Z8.out.keep bU))
          go_wp2_with fail
          refine hK.out _ _ ?_ (fun hHeld => ?_)
          · exact below_on hHeld bU
          clear hK K
          try simp only [Act.put, List.setIfInBounds_toArray, List.set_cons_zero, List.set_cons_succ]
          refine wpAnyH_ready (rs := [5]) (by kernel_rfl) (by simp) (AllReadyH.cons (o := { dst := some 8, op := _, type := _, pos := _, after := _, guard := _ }) rfl (fun K hK => ?_) AllReadyH.nil)
          go_simp
          have N5 := alloc_step hHeld 62 [.int .i64 0, .int .i64 0, .int .i64 0]
          have ge8 := hide hHeld.size
          try (have ne78 := hide (Nat.ne_of_gt Z7.out.lt))
          try (replace Z7 := hide (Z7.out.keep N5.2))
          have Z8 := hide N5.1
          (try simp only [World.size_alloc, World.size_drew] at Z8)
          (try simp only [World.size_alloc, World.size_drew] at ge8)
          (try simp only [World.size_alloc, World.size_drew] at ne78)
          go_wp2_with fail
          refine hK.out _ _ ?_ (fun hHeld => ?_)
          · exact hHeld.alloc hHeld.size _
          clear hK K
          try simp only [Act.put, List.setIfInBounds_toArray, List.set_cons_zero, List.set_cons_succ]
          refine wpAnyH_ready (rs := [6]) (by kernel_rfl) (by simp) (AllReadyH.cons (o := { dst := none, op := _, type := _, pos := _, after := _, guard := _ }) rfl (fun K hK => ?_) AllReadyH.nil)
          rw [if_pos (by rfl)]
          refine op_storeO 62 (.tmp 7) (.tmp 19) rfl _ 62 [.int .i64 0, .int .i64 0, .int .i64 0] [.int .i64 rk, .int .i64 ra, .int .i64 rc] rfl rfl Z7.out rfl (by kernel_rfl) (by intro v hv; simp at hv; rcases hv with rfl | rfl | rfl <;> rfl) ?_
          intro U z7 oU
          have Y7 := hide z7
          have Y8 := hide (Z8.out.out oU (by have := ne78.out; omega))
          have l6 := below_out hHeld oU ge7.out hHeld.size
          refine hK.out _ _ ?_ (fun hHeld => ?_)
          · exact l6
          clear hK K
          try simp only [Act.put, List.setIfInBounds_toArray, List.set_cons_zero, List.set_cons_succ]
          refine wpAnyH_ready (rs := [7]) (by kernel_rfl) (by simp) (AllReadyH.cons (o := { dst := none, op := _, type := _, pos := _, after := _, guard := _ }) rfl (fun K hK => ?_) AllReadyH.nil)
          rw [if_pos (by rfl)]
          refine op_storeO 62 (.tmp 8) (.tmp 21) rfl _ 62 [.int .i64 0, .int .i64 0, .int .i64 0] [.int .i64 wk, .int .i64 wa, .int .i64 wc'] rfl rfl Y8.out rfl (by kernel_rfl) (by intro v hv; simp at hv; rcases hv with rfl | rfl | rfl <;> rfl) ?_
          intro U z8 oU
          have X8 := hide z8
          have X7 := hide (Y7.out.out oU (by have := ne78.out; omega))
          have l7 := below_out hHeld oU ge8.out hHeld.size
          refine hK.out _ _ ?_ (fun hHeld => ?_)
          · exact l7
          clear hK K
          try simp only [Act.put, List.setIfInBounds_toArray, List.set_cons_zero, List.set_cons_succ]
          refine wpAnyH_done (by kernel_rfl) ?_ _
        case' way1x27x5 =>
          go_simp
          have N5 := alloc_step hHeld 62 [.int .i64 0, .int .i64 0, .int .i64 0]
          have ge8 := hide hHeld.size
          try (have ne78 := hide (Nat.ne_of_gt Z7.out.lt))
          try (replace Z7 := hide (Z7.out.keep N5.2))
          have Z8 := hide N5.1
          (try simp only [World.size_alloc, World.size_drew] at Z8)
          (try simp only [World.size_alloc, World.size_drew] at ge8)
          (try simp only [World.size_alloc, World.size_drew] at ne78)
          go_wp2_with fail
          refine hK.out _ _ ?_ (fun hHeld => ?_)
          · exact hHeld.alloc hHeld.size _
          clear hK K
          try simp only [Act.put, List.setIfInBounds_toArray, List.set_cons_zero, List.set_cons_succ]
          refine wpAnyH_ready (rs := [3]) (by kernel_rfl) (by simp) (AllReadyH.cons (o := { dst := some 21, op := _, type := _, pos := _, after := _, guard := _ }) rfl (fun K hK => ?_) AllReadyH.nil)
          go_simp
          refine (HW.out _).mono ?_
          rintro e U ⟨rfl, bU⟩
          try (replace Z7 := hide (Z7.out.keep bU))
          try (replace Z8 := hide (Z8.out.keep bU))
          go_wp2_with fail
          refine hK.out _ _ ?_ (fun hHeld => ?_)
          · exact below_on hHeld bU
          clear hK K
          try simp only [Act.put, List.setIfInBounds_toArray, List.set_cons_zero, List.set_cons_succ]
          refine wpAnyH_ready (rs := [6]) (by kernel_rfl) (by simp) (AllReadyH.cons (o := { dst := none, op := _, type := _, pos := _, after := _, guard := _ }) rfl (fun K hK => ?_) AllReadyH.nil)
          rw [if_pos (by rfl)]
          refine op_storeO 62 (.tmp 7) (.tmp 19) rfl _ 62 [.int .i64 0, .int .i64 0, .int .i64 0] [.int .i64 rk, .int .i64 ra, .int .i64 rc] rfl rfl Z7.out rfl (by kernel_rfl) (by intro v hv; simp at hv; rcases hv with rfl | rfl | rfl <;> rfl) ?_
          intro U z7 oU
          have Y7 := hide z7
          have Y8 := hide (Z8.out.out oU (by have := ne78.out; omega))
          have l6 := below_out hHeld oU ge7.out hHeld.size
          refine hK.out _ _ ?_ (fun hHeld => ?_)
          · exact l6
          clear hK K
          try simp only [Act.put, List.setIfInBounds_toArray, List.set_cons_zero, List.set_cons_succ]
          refine wpAnyH_ready (rs := [7]) (by kernel_rfl) (by simp) (AllReadyH.cons (o := { dst := none, op := _, type := _, pos := _, after := _, guard := _ }) rfl (fun K hK => ?_) AllReadyH.nil)
          rw [if_pos (by rfl)]
          refine op_storeO 62 (.tmp 8) (.tmp 21) rfl _ 62 [.int .i64 0, .int .i64 0, .int .i64 0] [.int .i64 wk, .int .i64 wa, .int .i64 wc'] rfl rfl Y8.out rfl (by kernel_rfl) (by intro v hv; simp at hv; rcases hv with rfl | rfl | rfl <;> rfl) ?_
          intro U z8 oU
          have X8 := hide z8
          have X7 := hide (Y7.out.out oU (by have := ne78.out; omega))
          have l7 := below_out hHeld oU ge8.out hHeld.size
          refine hK.out _ _ ?_ (fun hHeld => ?_)
          · exact l7
          clear hK K
          try simp only [Act.put, List.setIfInBounds_toArray, List.set_cons_zero, List.set_cons_succ]
          refine wpAnyH_done (by kernel_rfl) ?_ _
      case' way1x26x5 =>
        go_simp
        have N5 := alloc_step hHeld 62 [.int .i64 0, .int .i64 0, .int .i64 0]
        have ge8 := hide hHeld.size
        try (have ne78 := hide (Nat.ne_of_gt Z7.out.lt))
        try (replace Z7 := hide (Z7.out.keep N5.2))
        have Z8 := hide N5.1
        (try simp only [World.size_alloc, World.size_drew] at Z8)
        (try simp only [World.size_alloc, World.size_drew] at ge8)
        (try simp only [World.size_alloc, World.size_drew] at ne78)
        go_wp2_with fail
        refine hK.out _ _ ?_ (fun hHeld => ?_)
        · exact hHeld.alloc hHeld.size _
        clear hK K
        try simp only [Act.put, List.setIfInBounds_toArray, List.set_cons_zero, List.set_cons_succ]
        refine wpAnyH_ready (rs := [1]) (by kernel_rfl) (by simp) (AllReadyH.cons (o := { dst := some 19, op := _, type := _, pos := _, after := _, guard := _ }) rfl (fun K hK => ?_) AllReadyH.nil)
        go_simp
        refine (HR.out _).mono ?_
        rintro e U ⟨rfl, bU⟩
        try (replace Z7 := hide (Z7.out.keep bU))
        try (replace Z8 := hide (Z8.out.keep bU))
        go_wp2_with fail
        refine hK.out _ _ ?_ (fun hHeld => ?_)
        · exact below_on hHeld bU
        clear hK K
        try simp only [Act.put, List.setIfInBounds_toArray, List.set_cons_zero, List.set_cons_succ]
        refine wpAnyH_ready (rs := [3]) (by kernel_rfl) (by simp) (AllReadyH.cons (o := { dst := some 21, op := _, type := _, pos := _, after := _, guard := _ }) rfl (fun K hK => ?_) AllReadyH.nil)
        go_simp
        refine (HW.out _).mono ?_
        rintro e U ⟨rfl, bU⟩
        try (replace Z7 := hide (Z7.out.keep bU))
        try (replace Z8 := hide (Z8.out.keep bU))
        go_wp2_with fail
        refine hK.out _ _ ?_ (fun hHeld => ?_)
        · exact below_on hHeld bU
        clear hK K
        try simp only [Act.put, List.setIfInBounds_toArray, List.set_cons_zero, List.set_cons_succ]
        refine wpAnyH_ready (rs := [6]) (by kernel_rfl) (by simp) (AllReadyH.cons (o := { dst := none, op := _, type := _, pos := _, after := _, guard := _ }) rfl (fun K hK => ?_) AllReadyH.nil)
        rw [if_pos (by rfl)]
        refine op_storeO 62 (.tmp 7) (.tmp 19) rfl _ 62 [.int .i64 0, .int .i64 0, .int .i64 0] [.int .i64 rk, .int .i64 ra, .int .i64 rc] rfl rfl Z7.out rfl (by kernel_rfl) (by intro v hv; simp at hv; rcases hv with rfl | rfl | rfl <;> rfl) ?_
        intro U z7 oU
        have Y7 := hide z7
        have Y8 := hide (Z8.out.out oU (by have := ne78.out; omega))
        have l6 := below_out hHeld oU ge7.out hHeld.size
        refine hK.out _ _ ?_ (fun hHeld => ?_)
        · exact l6
        clear hK K
        try simp only [Act.put, List.setIfInBounds_toArray, List.set_cons_zero, List.set_cons_succ]
        refine wpAnyH_ready (rs := [7]) (by kernel_rfl) (by simp) (AllReadyH.cons (o := { dst := none, op := _, type := _, pos := _, after := _, guard := _ }) rfl (fun K hK => ?_) AllReadyH.nil)
        rw [if_pos (by rfl)]
        refine op_storeO 62 (.tmp 8) (.tmp 21) rfl _ 62 [.int .i64 0, .int .i64 0, .int .i64 0] [.int .i64 wk, .int .i64 wa, .int .i64 wc'] rfl rfl Y8.out rfl (by kernel_rfl) (by intro v hv; simp at hv; rcases hv with rfl | rfl | rfl <;> rfl) ?_
        intro U z8 oU
        have X8 := hide z8
        have X7 := hide (Y7.out.out oU (by have := ne78.out; omega))
        have l7 := below_out hHeld oU ge8.out hHeld.size
        refine hK.out _ _ ?_ (fun hHeld => ?_)
        · exact l7
        clear hK K
        try simp only [Act.put, List.setIfInBounds_toArray, List.set_cons_zero, List.set_cons_succ]
        refine wpAnyH_done (by kernel_rfl) ?_ _
    case' way1x3x5 =>
      go_simp
      have N5 := alloc_step hHeld 62 [.int .i64 0, .int .i64 0, .int .i64 0]
      have ge8 := hide hHeld.size
      try (have ne78 := hide (Nat.ne_of_gt Z7.out.lt))
      try (replace Z7 := hide (Z7.out.keep N5.2))
      have Z8 := hide N5.1
      (try simp only [World.size_alloc, World.size_drew] at Z8)
      (try simp only [World.size_alloc, World.size_drew] at ge8)
      (try simp only [World.size_alloc, World.size_drew] at ne78)
      go_wp2_with fail
      refine hK.out _ _ ?_ (fun hHeld => ?_)
      · exact hHeld.alloc hHeld.size _
      clear hK K
      try simp only [Act.put, List.setIfInBounds_toArray, List.set_cons_zero, List.set_cons_succ]
      refine wpAnyH_ready (rs := [1, 4]) (by kernel_rfl) (by simp) (AllReadyH.cons (o := { dst := some 19, op := _, type := _, pos := _, after := _, guard := _ }) rfl (fun K hK => ?way1x38x1) (AllReadyH.cons (o := { dst := some 7, op := _, type := _, pos := _, after := _, guard := _ }) rfl (fun K hK => ?way1x38x4) AllReadyH.nil))
      case' way1x38x1 =>
        go_simp
        refine (HR.out _).mono ?_
        rintro e U ⟨rfl, bU⟩
        try (replace Z7 := hide (Z7.out.keep bU))
        try (replace Z8 := hide (Z8.out.keep bU))
        go_wp2_with fail
        refine hK.out _ _ ?_ (fun hHeld => ?_)
        · exact below_on hHeld bU
        clear hK K
        try simp only [Act.put, List.setIfInBounds_toArray, List.set_cons_zero, List.set_cons_succ]
        refine wpAnyH_ready (rs := [3, 4]) (by kernel_rfl) (by simp) (AllReadyH.cons (o := { dst := some 21, op := _, type := _, pos := _, after := _, guard := _ }) rfl (fun K hK => ?way1x39x3) (AllReadyH.cons (o := { dst := some 7, op := _, type := _, pos := _, after := _, guard := _ }) rfl (fun K hK => ?way1x39x4) AllReadyH.nil))
        case' way1x39x3 =>
          go_simp
          refine (HW.out _).mono ?_
          rintro e U ⟨rfl, bU⟩
          try (replace Z7 := hide (Z7.out.keep bU))
          try (replace Z8 := hide (Z8.out.keep bU))
          go_wp2_with fail
          refine hK.out _ _ ?_ (fun hHeld => ?_)
          · exact below_on hHeld bU
          clear hK K
          try simp only [Act.put, List.setIfInBounds_toArray, List.set_cons_zero, List.set_cons_succ]
          refine wpAnyH_ready (rs := [4]) (by kernel_rfl) (by simp) (AllReadyH.cons (o := { dst := some 7, op := _, type := _, pos := _, after := _, guard := _ }) rfl (fun K hK => ?_) AllReadyH.nil)
          go_simp
          have N4 := alloc_step hHeld 62 [.int .i64 0, .int .i64 0, .int .i64 0]
          have ge7 := hide hHeld.size
          try (have ne78 := hide (Nat.ne_of_lt Z8.out.lt))
          try (replace Z8 := hide (Z8.out.keep N4.2))
          have Z7 := hide N4.1
          (try simp only [World.size_alloc, World.size_drew] at Z7)
          (try simp only [World.size_alloc, World.size_drew] at ge7)
          (try simp only [World.size_alloc, World.size_drew] at ne78)
          go_wp2_with fail
          refine hK.out _ _ ?_ (fun hHeld => ?_)
          · exact hHeld.alloc hHeld.size _
          clear hK K
          try simp only [Act.put, List.setIfInBounds_toArray, List.set_cons_zero, List.set_cons_succ]
          refine wpAnyH_ready (rs := [6]) (by kernel_rfl) (by simp) (AllReadyH.cons (o := { dst := none, op := _, type := _, pos := _, after := _, guard := _ }) rfl (fun K hK => ?_) AllReadyH.nil)
          rw [if_pos (by rfl)]
          refine op_storeO 62 (.tmp 7) (.tmp 19) rfl _ 62 [.int .i64 0, .int .i64 0, .int .i64 0] [.int .i64 rk, .int .i64 ra, .int .i64 rc] rfl rfl Z7.out rfl (by kernel_rfl) (by intro v hv; simp at hv; rcases hv with rfl | rfl | rfl <;> rfl) ?_
          intro U z7 oU
          have Y7 := hide z7
          have Y8 := hide (Z8.out.out oU (by have := ne78.out; omega))
          have l6 := below_out hHeld oU ge7.out hHeld.size
          refine hK.out _ _ ?_ (fun hHeld => ?_)
          · exact l6
          clear hK K
          try simp only [Act.put, List.setIfInBounds_toArray, List.set_cons_zero, List.set_cons_succ]
          refine wpAnyH_ready (rs := [7]) (by kernel_rfl) (by simp) (AllReadyH.cons (o := { dst := none, op := _, type := _, pos := _, after := _, guard := _ }) rfl (fun K hK => ?_) AllReadyH.nil)
          rw [if_pos (by rfl)]
          refine op_storeO 62 (.tmp 8) (.tmp 21) rfl _ 62 [.int .i64 0, .int .i64 0, .int .i64 0] [.int .i64 wk, .int .i64 wa, .int .i64 wc'] rfl rfl Y8.out rfl (by kernel_rfl) (by intro v hv; simp at hv; rcases hv with rfl | rfl | rfl <;> rfl) ?_
          intro U z8 oU
          have X8 := hide z8
          have X7 := hide (Y7.out.out oU (by have := ne78.out; omega))
          have l7 := below_out hHeld oU ge8.out hHeld.size
          refine hK.out _ _ ?_ (fun hHeld => ?_)
          · exact l7
          clear hK K
          try simp only [Act.put, List.setIfInBounds_toArray, List.set_cons_zero, List.set_cons_succ]
          refine wpAnyH_done (by kernel_rfl) ?_ _
        case' way1x39x4 =>
          go_simp
          have N4 := alloc_step hHeld 62 [.int .i64 0, .int .i64 0, .int .i64 0]
          have ge7 := hide hHeld.size
          try (have ne78 := hide (Nat.ne_of_lt Z8.out.lt))
          try (replace Z8 := hide (Z8.out.keep N4.2))
          have Z7 := hide N4.1
          (try simp only [World.size_alloc, World.size_drew] at Z7)
          (try simp only [World.size_alloc, World.size_drew] at ge7)
          (try simp only [World.size_alloc, World.size_drew] at ne78)
          go_wp2_with fail
          refine hK.out _ _ ?_ (fun hHeld => ?_)
          · exact hHeld.alloc hHeld.size _
          clear hK K
          try simp only [Act.put, List.setIfInBounds_toArray, List.set_cons_zero, List.set_cons_succ]
          refine wpAnyH_ready (rs := [3]) (by kernel_rfl) (by simp) (AllReadyH.cons (o := { dst := some 21, op := _, type := _, pos := _, after := _, guard := _ }) rfl (fun K hK => ?_) AllReadyH.nil)
          go_simp
          refine (HW.out _).mono ?_
          rintro e U ⟨rfl, bU⟩
          try (replace Z7 := hide (Z7.out.keep bU))
          try (replace Z8 := hide (Z8.out.keep bU))
          go_wp2_with fail
          refine hK.out _ _ ?_ (fun hHeld => ?_)
          · exact below_on hHeld bU
          clear hK K
          try simp only [Act.put, List.setIfInBounds_toArray, List.set_cons_zero, List.set_cons_succ]
          refine wpAnyH_ready (rs := [6]) (by kernel_rfl) (by simp) (AllReadyH.cons (o := { dst := none, op := _, type := _, pos := _, after := _, guard := _ }) rfl (fun K hK => ?_) AllReadyH.nil)
          rw [if_pos (by rfl)]
          refine op_storeO 62 (.tmp 7) (.tmp 19) rfl _ 62 [.int .i64 0, .int .i64 0, .int .i64 0] [.int .i64 rk, .int .i64 ra, .int .i64 rc] rfl rfl Z7.out rfl (by kernel_rfl) (by intro v hv; simp at hv; rcases hv with rfl | rfl | rfl <;> rfl) ?_
          intro U z7 oU
          have Y7 := hide z7
          have Y8 := hide (Z8.out.out oU (by have := ne78.out; omega))
          have l6 := below_out hHeld oU ge7.out hHeld.size
          refine hK.out _ _ ?_ (fun hHeld => ?_)
          · exact l6
          clear hK K
          try simp only [Act.put, List.setIfInBounds_toArray, List.set_cons_zero, List.set_cons_succ]
          refine wpAnyH_ready (rs := [7]) (by kernel_rfl) (by simp) (AllReadyH.cons (o := { dst := none, op := _, type := _, pos := _, after := _, guard := _ }) rfl (fun K hK => ?_) AllReadyH.nil)
          rw [if_pos (by rfl)]
          refine op_storeO 62 (.tmp 8) (.tmp 21) rfl _ 62 [.int .i64 0, .int .i64 0, .int .i64 0] [.int .i64 wk, .int .i64 wa, .int .i64 wc'] rfl rfl Y8.out rfl (by kernel_rfl) (by intro v hv; simp at hv; rcases hv with rfl | rfl | rfl <;> rfl) ?_
          intro U z8 oU
          have X8 := hide z8
          have X7 := hide (Y7.out.out oU (by have := ne78.out; omega))
          have l7 := below_out hHeld oU ge8.out hHeld.size
          refine hK.out _ _ ?_ (fun hHeld => ?_)
          · exact l7
          clear hK K
          try simp only [Act.put, List.setIfInBounds_toArray, List.set_cons_zero, List.set_cons_succ]
          refine wpAnyH_done (by kernel_rfl) ?_ _
      case' way1x38x4 =>
        go_simp
        have N4 := alloc_step hHeld 62 [.int .i64 0, .int .i64 0, .int .i64 0]
        have ge7 := hide hHeld.size
        try (have ne78 := hide (Nat.ne_of_lt Z8.out.lt))
        try (replace Z8 := hide (Z8.out.keep N4.2))
        have Z7 := hide N4.1
        (try simp only [World.size_alloc, World.size_drew] at Z7)
        (try simp only [World.size_alloc, World.size_drew] at ge7)
        (try simp only [World.size_alloc, World.size_drew] at ne78)
        go_wp2_with fail
        refine hK.out _ _ ?_ (fun hHeld => ?_)
        · exact hHeld.alloc hHeld.size _
        clear hK K
        try simp only [Act.put, List.setIfInBounds_toArray, List.set_cons_zero, List.set_cons_succ]
        refine wpAnyH_ready (rs := [1]) (by kernel_rfl) (by simp) (AllReadyH.cons (o := { dst := some 19, op := _, type := _, pos := _, after := _, guard := _ }) rfl (fun K hK => ?_) AllReadyH.nil)
        go_simp
        refine (HR.out _).mono ?_
        rintro e U ⟨rfl, bU⟩
        try (replace Z7 := hide (Z7.out.keep bU))
        try (replace Z8 := hide (Z8.out.keep bU))
        go_wp2_with fail
        refine hK.out _ _ ?_ (fun hHeld => ?_)
        · exact below_on hHeld bU
        clear hK K
        try simp only [Act.put, List.setIfInBounds_toArray, List.set_cons_zero, List.set_cons_succ]
        refine wpAnyH_ready (rs := [3]) (by kernel_rfl) (by simp) (AllReadyH.cons (o := { dst := some 21, op := _, type := _, pos := _, after := _, guard := _ }) rfl (fun K hK => ?_) AllReadyH.nil)
        go_simp
        refine (HW.out _).mono ?_
        rintro e U ⟨rfl, bU⟩
        try (replace Z7 := hide (Z7.out.keep bU))
        try (replace Z8 := hide (Z8.out.keep bU))
        go_wp2_with fail
        refine hK.out _ _ ?_ (fun hHeld => ?_)
        · exact below_on hHeld bU
        clear hK K
        try simp only [Act.put, List.setIfInBounds_toArray, List.set_cons_zero, List.set_cons_succ]
        refine wpAnyH_ready (rs := [6]) (by kernel_rfl) (by simp) (AllReadyH.cons (o := { dst := none, op := _, type := _, pos := _, after := _, guard := _ }) rfl (fun K hK => ?_) AllReadyH.nil)
        rw [if_pos (by rfl)]
        refine op_storeO 62 (.tmp 7) (.tmp 19) rfl _ 62 [.int .i64 0, .int .i64 0, .int .i64 0] [.int .i64 rk, .int .i64 ra, .int .i64 rc] rfl rfl Z7.out rfl (by kernel_rfl) (by intro v hv; simp at hv; rcases hv with rfl | rfl | rfl <;> rfl) ?_
        intro U z7 oU
        have Y7 := hide z7
        have Y8 := hide (Z8.out.out oU (by have := ne78.out; omega))
        have l6 := below_out hHeld oU ge7.out hHeld.size
        refine hK.out _ _ ?_ (fun hHeld => ?_)
        · exact l6
        clear hK K
        try simp only [Act.put, List.setIfInBounds_toArray, List.set_cons_zero, List.set_cons_succ]
        refine wpAnyH_ready (rs := [7]) (by kernel_rfl) (by simp) (AllReadyH.cons (o := { dst := none, op := _, type := _, pos := _, after := _, guard := _ }) rfl (fun K hK => ?_) AllReadyH.nil)
        rw [if_pos (by rfl)]
        refine op_storeO 62 (.tmp 8) (.tmp 21) rfl _ 62 [.int .i64 0, .int .i64 0, .int .i64 0] [.int .i64 wk, .int .i64 wa, .int .i64 wc'] rfl rfl Y8.out rfl (by kernel_rfl) (by intro v hv; simp at hv; rcases hv with rfl | rfl | rfl <;> rfl) ?_
        intro U z8 oU
        have X8 := hide z8
        have X7 := hide (Y7.out.out oU (by have := ne78.out; omega))
        have l7 := below_out hHeld oU ge8.out hHeld.size
        refine hK.out _ _ ?_ (fun hHeld => ?_)
        · exact l7
        clear hK K
        try simp only [Act.put, List.setIfInBounds_toArray, List.set_cons_zero, List.set_cons_succ]
        refine wpAnyH_done (by kernel_rfl) ?_ _
    all_goals
      go_wp2_with fail
      go_meet
      exact ⟨_, _, rfl, rfl, X7.out, X8.out, l7, ge7.out, ge8.out⟩
  case rest =>
    obtain ⟨g7, g8, rfl, rfl, z7, z8, bc, ge7, ge8⟩ := hcut
    have hRk := rdS_count HM.out
    have hWk := wrS_count f a t n hn
    rw [HRD.out] at hRk
    rw [HWR.out] at hWk
    have hlen : vs.length = n := by rw [← iv_length]; exact HV.out.1
    have HL := hide hlen
    have HH1 := hide (fun W (h : SlA 58 lo hi W g b R) => sHas_any lo hi g b R rk ra rc W h (hw.len rk) hRk)
    have HH2 := hide (fun W (h : SlA 58 lo hi W g b R) => sHas_any lo hi g b R wk wa wc' W h (hw.len wk) hWk)
    have HWw := hide (fun W (h : SlA 58 lo hi W g b R) (hr : Rd W A n (iv vs)) => sWrite_all lo hi g b R f a c t an o A n k vs W h hr hw HM.out)
    rw [HWR.out] at HWw
    have HRr := hide (fun (R' : Nat → List Int) W (h : SlA 58 lo hi W g b R') h1 h2 h3 h4 => sRead_any lo hi g b R' rk ra rc ra.toNat rc.toNat W h h1 h2 h3 h4)
    have HG : Hid (goesB R f a c n t = (hasB R rk ra rc && hasB R wk wa wc')) := by
      show _ = _
      unfold goesB
      rw [HRD.out, HWR.out]
    have L2 := hide (below_on L1.out bc)
    have J2 := hide (J1.out.keep bc)
    have K2 := hide (K1.out.keep bc)
    have Z7 := hide z7
    have Z8 := hide z8
    have G7 := hide ge7
    have G8 := hide ge8
    have hHI := hide H1.out.hi
    have hW1 := hide L1.out.size
    have hk1 := hide K1.out.lt
    clear k0 k1 k2 k3 k4 k5 k6 q0 z7 z8 bc ge7 ge8 hRk hWk hlen L1 J1 K1
    cases hb1 : hasB R rk ra rc
    · rw [hb1] at HG HH1
      obtain ⟨c70, c71, c72⟩ := Z7.out.three
      go_wp2_with fail
      refine (HH1.out _ (H1.out.keep L2.out)).mono ?_
      rintro e w2 ⟨rfl, b2⟩
      have J3 := hide (J2.out.keep b2)
      have L3 := hide (below_on L2.out b2)
      clear c70 c71 c72 b2
      obtain ⟨j0, j1⟩ := J3.out.two
      have jf := J3.out.frozen
      have hz := J3.out.lt
      go_wp2_with fail
      (try simp only [Exit.inBlock, Exit.then])
      refine bodyPost_ret (results_cell_tmp (a := 4) (b := 5) rfl rfl (J3.out.set2 (.slice none 0 0) (.int .i64 2)) Try.underlying38 rfl (by kernel_rfl)) rfl ?_
      have eG : goesB R f a c n t = false := by rw [HG.out]; rfl
      have eG' : goesB R f a c vs.length t = false := by rw [HL.out]; exact eG
      rw [show doC R f a c n t = 2 by simp [doC, eG], show doR R f a c vs t an o = R by simp [doR, eG'], show doV R f a c vs t an o = [] by simp [doV, eG']]
      have oX := ((Oth.ofBelow L3.out lo hi).setNew (g := w.heap.size + 1) (i := 0) (v := .slice none 0 0) (by omega)).setNew (g := w.heap.size + 1) (i := 1) (v := .int .i64 2) (by omega)
      exact ⟨none, 0, rfl, Nat.le_refl _, Rd.nil _ _, NewA.nil _, (H1.out.keep L3.out).out ((Oth.setCell (g := w.heap.size + 1) _ _).trans (Oth.setCell _ _)) (Or.inl (by have := hHI.out; omega)), oX⟩
    rw [hb1] at HG HH1
    cases hb2 : hasB R wk wa wc'
    · rw [hb2] at HG HH2
      obtain ⟨c70, c71, c72⟩ := Z7.out.three
      go_wp2_with fail
      refine (HH1.out _ (H1.out.keep L2.out)).mono ?_
      rintro e w2 ⟨rfl, b2⟩
      have J3 := hide (J2.out.keep b2)
      have Z83 := hide (Z8.out.keep b2)
      have L3 := hide (below_on L2.out b2)
      clear c70 c71 c72 b2
      obtain ⟨c80, c81, c82⟩ := Z83.out.three
      go_wp2_with fail
      refine (HH2.out _ (H1.out.keep L3.out)).mono ?_
      rintro e w3 ⟨rfl, b3⟩
      have J4 := hide (J3.out.keep b3)
      have L4 := hide (below_on L3.out b3)
      clear c80 c81 c82 b3
      obtain ⟨j0, j1⟩ := J4.out.two
      have jf := J4.out.frozen
      have hz := J4.out.lt
      go_wp2_with fail
      (try simp only [Exit.inBlock, Exit.then])
      refine bodyPost_ret (results_cell_tmp (a := 4) (b := 5) rfl rfl (J4.out.set2 (.slice none 0 0) (.int .i64 2)) Try.underlying38 rfl (by kernel_rfl)) rfl ?_
      have eG : goesB R f a c n t = false := by rw [HG.out]; rfl
      have eG' : goesB R f a c vs.length t = false := by rw [HL.out]; exact eG
      rw [show doC R f a c n t = 2 by simp [doC, eG], show doR R f a c vs t an o = R by simp [doR, eG'], show doV R f a c vs t an o = [] by simp [doV, eG']]
      have oX := ((Oth.ofBelow L4.out lo hi).setNew (g := w.heap.size + 1) (i := 0) (v := .slice none 0 0) (by omega)).setNew (g := w.heap.size + 1) (i := 1) (v := .int .i64 2) (by omega)
      exact ⟨none, 0, rfl, Nat.le_refl _, Rd.nil _ _, NewA.nil _, (H1.out.keep L4.out).out ((Oth.setCell (g := w.heap.size + 1) _ _).trans (Oth.setCell _ _)) (Or.inl (by have := hHI.out; omega)), oX⟩
    · have HB1 := hide hb1
      have HB2 := hide hb2
      rw [hb2] at HG HH2
      clear hb1 hb2
      obtain ⟨c70, c71, c72⟩ := Z7.out.three
      go_wp2_with fail
      refine (HH1.out _ (H1.out.keep L2.out)).mono ?_
      rintro e w2 ⟨rfl, b2⟩
      have J3 := hide (J2.out.keep b2)
      have K3 := hide (K2.out.keep b2)
      have Z73 := hide (Z7.out.keep b2)
      have Z83 := hide (Z8.out.keep b2)
      have L3 := hide (below_on L2.out b2)
      clear c70 c71 c72 b2
      obtain ⟨c80, c81, c82⟩ := Z83.out.three
      go_wp2_with fail
      refine (HH2.out _ (H1.out.keep L3.out)).mono ?_
      rintro e w3 ⟨rfl, b3⟩
      have J4 := hide (J3.out.keep b3)
      have K4 := hide (K3.out.keep b3)
      have Z74 := hide (Z73.out.keep b3)
      have Z84 := hide (Z83.out.keep b3)
      have L4 := hide (below_on L3.out b3)
      clear c80 c81 c82 b3
      obtain ⟨c80, c81, c82⟩ := Z84.out.three
      obtain ⟨k0, k1, k2, k3, k4, k5, k6⟩ := K4.out.seven
      go_wp2_with fail
      refine (HWw.out _ (H1.out.keep L4.out) (HV.out.keep L4.out) HB2.out).mono ?_
      rintro e w4 ⟨rfl, sl4, o4⟩
      have S4 := hide sl4
      have O4 := hide o4
      have J5 := hide (J4.out.out o4 (Or.inr (by have := hHI.out; omega)))
      have Z75 := hide (Z74.out.out o4 (Or.inr (by have := hHI.out; have := G7.out; have := hW1.out; omega)))
      clear c80 c81 c82 k0 k1 k2 k3 k4 k5 k6 sl4 o4
      obtain ⟨c70, c71, c72⟩ := Z75.out.three
      have eB2 : hasB R (wrS f a vs.length t).1 (wrS f a vs.length t).2.1 (wrS f a vs.length t).2.2 = true := by rw [HL.out, HWR.out]; exact HB2.out
      have eLn := hide (next_rowL HM.out eB2 rk)
      have hr1 := hasB_yes HB1.out
      have HX : Hid (valsL (nextR R f a vs t an o) f a c = ((rowL (nextR R f a vs t an o) rk).drop ra.toNat).take rc.toNat) := by show _ = _; unfold valsL; rw [HRD.out]
      have hRk := rdS_count HM.out
      rw [HRD.out] at hRk
      simp only at hRk
      have hfit : ra.toNat + rc.toNat ≤ (rowL (nextR R f a vs t an o) rk).length := by rw [eLn.out]; omega
      have HRq := hide (HRr.out (nextR R f a vs t an o) w4 S4.out (by omega) (by omega) (by rw [eLn.out]; exact hw.len rk) hfit)
      have hXl : (valsL (nextR R f a vs t an o) f a c).length = rc.toNat := by rw [HX.out]; simp; omega
      have HXl := hide hXl
      rw [← HX.out] at HRq
      clear eB2 hr1 hRk hfit hXl HX
      go_wp2_with fail
      refine HRq.out.mono ?_
      rintro e w5 ⟨C, m, rfl, lm, rC, b5, nC⟩
      have J6 := hide (J5.out.keep b5)
      have S5 := hide (S4.out.keep b5)
      have O5 := hide (O4.out.on b5)
      have RC := hide rC
      have NC := hide nC
      have LM := hide lm
      have hz4 := hide J5.out.lt
      clear c70 c71 c72 b5 rC nC lm
      obtain ⟨j0, j1⟩ := J6.out.two
      have jf := J6.out.frozen
      have hz := J6.out.lt
      go_wp2_with fail
      (try simp only [Exit.inBlock, Exit.then])
      refine bodyPost_ret (results_cell_tmp (a := 4) (b := 5) rfl rfl (J6.out.set2 (.slice C rc.toNat m) (.int .i64 0)) Try.underlying38 rfl (by kernel_rfl)) rfl ?_
      have eG : goesB R f a c n t = true := by rw [HG.out]; rfl
      have eG' : goesB R f a c vs.length t = true := by rw [HL.out]; exact eG
      rw [show doC R f a c n t = 0 by simp [doC, eG], show doR R f a c vs t an o = nextR R f a vs t an o by simp [doR, eG'], show doV R f a c vs t an o = valsL (nextR R f a vs t an o) f a c by simp [doV, eG'], HXl.out]
      have hne : ∀ b' o', C = some ⟨b', o', none⟩ → b' ≠ w.heap.size + 1 := fun b' o' e => by have := NC.out b' o' e; have := hz4.out; omega
      have oX := ((Oth.after L4.out O5.out).setNew (g := w.heap.size + 1) (i := 0) (v := .slice C rc.toNat m) (by omega)).setNew (g := w.heap.size + 1) (i := 1) (v := .int .i64 0) (by omega)
      exact ⟨C, m, rfl, LM.out, RC.out.set2 hne _ _, NC.out.old (Nat.le_trans L4.out.size O4.out.size), S5.out.out ((Oth.setCell (g := w.heap.size + 1) _ _).trans (Oth.setCell _ _)) (Or.inl (by have := hHI.out; omega)), oX⟩

end Go.Proofs.Ytohiblldhdglgaa
