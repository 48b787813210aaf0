/-
  What is proved here: what the document's own Step of layer 7 answers where one is given up, and so in every case. Conditions: the master keeps to MOk; the tick and the rest are at most 10^9.
-/
import Derived.Test.YtfpfijggmfeejaaRs7
namespace Go.Proofs.Ytfpfijggmfeejaa
set_option linter.unusedVariables false
set_option linter.unusedSimpArgs false
open Go.RowKit Go.Maps

theorem done_info : (Try.prog.info? 63).map (fun i => (i.zero, i.size, i.bytes)) = some (some (.agg #[.int .i64 0, .slice none 0 0, .int .i64 0, .bool false]), 4, 48) := by kernel_rfl
theorem set8 (a b c d e f g h : Value) (l : List Value) (n : Nat) (v : Value) : ([a, b, c, d, e, f, g, h] ++ l).set (8 + n) v = [a, b, c, d, e, f, g, h] ++ l.set n v := by
  rw [Nat.add_comm]
  rfl
theorem RsA.goneS {w w' : World} {R : RL} {s : MSt} (h : RsA w R s) (b : But (fun i => i = R.g) w w') (s' : MSt) (hblk : Blk w' R.g 34 (rcs { R with o := none } s')) (h1 : s'.line = s.line) (h2 : s'.out = none) : RsA w' { R with o := none } s' := by
  refine ⟨hblk, ownS_but h.row b (fun _ _ e h' => h.ne.1 _ _ e h'), fun x hx => (h.own x hx).but b (fun b' o e h' => h.off (h.own x hx) b' o e (Or.inl h')), h.wl.trans h1.symm, ?_, fun _ _ _ _ e => by cases e⟩
  rw [h2]
  trivial
theorem rd_done (w : World) (xk : Nat) : Rd (w.alloc (.cells (arr (DM.vs ⟨xk, An.none, true, none, 0⟩)) 63)) (some ⟨w.heap.size, 0, none⟩) (1 * 4) (DM.vs ⟨xk, An.none, true, none, 0⟩) := (Blk.new w 63 (DM.vs ⟨xk, An.none, true, none, 0⟩)).rd
theorem done_one (xk : Nat) : ∀ v ∈ DM.vs ⟨xk, An.none, true, none, 0⟩, v.oneCell' = true := by
  intro v hv
  simp [DM.vs] at hv
  rcases hv with rfl | rfl | rfl | rfl <;> rfl
theorem DRdN.late {w w' : World} {S : Nat → Prop} {P : Option Addr} {xk : Nat} (h : DRdN w P 1 [⟨xk, An.none, true, none, 0⟩]) (b : But S w w') (hs : ∀ b o, P = some ⟨b, o, none⟩ → ¬ S b) : DRdN w' P 1 [⟨xk, An.none, true, none, 0⟩] :=
  ⟨h.1.but b (fun b' o e h' => hs b' o e h'), by intro d hd; simp at hd; subst hd; exact Rd.nil _ _⟩

set_option maxRecDepth 100000 in
set_option maxHeartbeats 4000000 in
theorem rsStep_late (R : RL) (s : MSt) (now : Int) (x : Wt) (t : Int) (w : World) (h : RsA w R s) (hk : MOk s) (hw : now ≤ 1000000000) (hrs : s.rest ≤ 1000000000) (hb : tickBad s now = false) (ho : s.out = some (x, t)) (hl : ¬ now - s.last < s.wait) (hn : ¬ t < s.again + 1) :
    Calls Try.prog 12 #[.pointer (some ⟨R.g, 0, none⟩), .int .i64 now] w (RetRStep R (stepR s now) w) := by
  rw [stepR_late hb ho hl hn]
  have OK0 := hide (mOk_late hk now hb x)
  obtain ⟨hn0, hn1⟩ := ok_lt hb
  have c3 : w.cell? ⟨R.g, 3, none⟩ = some (.int .i64 s.now) := h.blk.cell 3
  have c0 : w.cell? ⟨R.g, 0, none⟩ = some (.int .i64 s.wait) := h.blk.cell 0
  have c1 : w.cell? ⟨R.g, 1, none⟩ = some (.int .i64 s.again) := h.blk.cell 1
  have c2 : w.cell? ⟨R.g, 2, none⟩ = some (.int .i64 s.rest) := h.blk.cell 2
  have c4 : w.cell? ⟨R.g, 4, none⟩ = some (.int .i64 s.last) := h.blk.cell 4
  have c6 : w.cell? ⟨R.g, 6, none⟩ = some (.slice R.A R.ws.length R.k) := h.blk.cell 6
  have c7 : w.cell? ⟨R.g, 7, none⟩ = some (outV R.o) := h.blk.cell 7
  have fz := h.blk.frozen
  have hX : But (fun i => i = R.g) w (w.setCell ⟨R.g, 3, none⟩ (.int .i64 now)) := But.setCell w _ rfl
  have hAX : RsA (w.setCell ⟨R.g, 3, none⟩ (.int .i64 now)) R { s with now := now } := h.turnG hX { s with now := now } (h.blk.set 3 _) rfl rfl
  have H := hide h
  have AX := hide hAX
  have BX := hide (hX.wide (S' := R.S) (fun i e => Or.inl e))
  have l0 := hk.l0
  have l1 : s.last ≤ now := Int.le_trans hk.l1 hn1
  have q0 : IntKind.i64.wrap (now - s.last) = now - s.last := by rw [IntKind.wrap_i64]; omega
  have hlen : R.ws.length ≤ 64 := by rw [← List.length_map (f := SM.wt), h.wl]; exact hk.len
  clear hb hX hAX
  have hO := h.out
  rw [ho] at hO
  obtain ⟨b, y, eo, ey, hB, hyo⟩ := hO.some_
  have hbg := h.ne.2 b y eo
  rw [eo] at c7
  simp only [outV] at c7
  have q1 : decide (s.wait ≤ now - s.last) = true := decide_eq_true (by omega)
  have ha16 := hk.a16
  have hr0 := hk.r0
  have ha0 := hk.a0
  have hxu := (hk.omay x t ho).1
  subst ey
  obtain ⟨xk, yu, xr, xV, xc⟩ := y
  obtain ⟨xu, hxe⟩ : ∃ xu : Nat, yu = (xu : Int) := ⟨yu.toNat, by have : (0:Int) ≤ yu := hxu.2.1; omega⟩
  subst hxe
  have hu7 : xu ≤ 247 := by have : ((xu : Nat) : Int) ≤ 247 := hxu.2.2.1; omega
  have d0 : w.cell? ⟨b, 0, none⟩ = some (.int .i64 (xk : Nat)) := hB.cell 0
  have d1 : w.cell? ⟨b, 1, none⟩ = some (.int .i64 (xu : Nat)) := hB.cell 1
  have d9 : w.cell? ⟨b, 9, none⟩ = some (.int .i64 t) := hB.cell 9
  have q2 : IntKind.i64.wrap (s.again + 1) = s.again + 1 := by rw [IntKind.wrap_i64]; omega
  have q3 : decide (t < s.again + 1) = false := decide_eq_false hn
  have q5 : IntKind.i64.wrap (now + s.rest) = now + s.rest := by rw [IntKind.wrap_i64]; omega
  have qu : (xu : Int) < 248 := by omega
  have hgb : R.g ≠ b := fun e => hbg e.symm
  have HBB := hide hB
  have EO := hide eo
  clear h hO hB hyo eo ho hk hl hn ha16 ha0 hxu
  go_enter Try.func12, Try.ntmps12
  go_wp2_with fail
  go_quiet (fail)
  go_wp2_with fail
  go_quiet (fail)
  go_upto_region 10 with fail
  try rw [World.drewN_drewN]
  generalize hX1 : (w.setCell ⟨R.g, 3, none⟩ (.int .i64 now)).drewN _ = X1
  have b01 : Below (w.setCell ⟨R.g, 3, none⟩ (.int .i64 now)).heap.size (w.setCell ⟨R.g, 3, none⟩ (.int .i64 now)) X1 := by rw [← hX1]; exact below_drewN (Below.refl _ _) _
  have A1 := hide (AX.out.keep b01)
  have B1 := hide ((But.setCell w (.int .i64 now) rfl : But (fun i => i = R.g) w (w.setCell ⟨R.g, 3, none⟩ (.int .i64 now))).on b01)
  have HB1 := hide ((HBB.out.but (But.setCell w (.int .i64 now) rfl : But (fun i => i = R.g) w (w.setCell ⟨R.g, 3, none⟩ (.int .i64 now))) hbg).keep b01)
  clear b01 hX1 d0 d1 d9 c0 c1 c2 c3 c4 c6 c7 fz
  have d0 : X1.cell? ⟨b, 0, none⟩ = some (.int .i64 (xk : Nat)) := HB1.out.cell 0
  have c7 : X1.cell? ⟨R.g, 7, none⟩ = some (.slice (some ⟨b, 0, none⟩) 1 1) := by have := A1.out.blk.cell 7; rw [this]; show some (outV R.o) = _; rw [EO.out]; rfl
  go_upto_region 11 with (at_builtin; refine wpList_appS rfl (.tmp 80) (.tmp 90) 44 rfl 63 _ 4 48 Try.underlying44 done_info rfl (by decide) 0 none 0 0 [] rfl (World.ownsRow_nil _ _ _ _) (some ⟨X1.heap.size, 0, none⟩) 1 1 (DM.vs ⟨xk, An.none, true, none, 0⟩) rfl (rd_done X1 xk) (done_one xk) (by unfold maxLen; omega) (by omega) (Nat.zero_le _) ?_; intro PA pk w4 o4 b4 h4)
  rw [Nat.zero_add, List.nil_append] at o4
  have bA4 : Below X1.heap.size X1 (X1.alloc (.cells (arr (DM.vs ⟨xk, An.none, true, none, 0⟩)) 63)) := (Below.refl _ _).alloc (Nat.le_refl _) _
  have nf : ∀ i : Nat, ¬ ∃ o, (none : Option Addr) = some ⟨i, o, none⟩ := fun i ⟨_, h⟩ => by cases h
  have hw4 : Below X1.heap.size X1 w4 := But.below bA4 b4 (fun i h => (nf i h).elim) bA4.size
  have A4 := hide (A1.out.keep hw4)
  have B4 := hide (B1.out.on hw4)
  have HB4 := hide (HB1.out.keep hw4)
  have SRP := hide (ownS_rd o4)
  have HPG := hide (show ∀ b o, PA = some ⟨b, o, none⟩ → ¬ b = R.g from fun b o e => own_ne o4 A4.out.blk (by decide) e)
  clear o4 b4 h4 bA4 hw4 d0 c7
  have d1 : w4.cell? ⟨b, 1, none⟩ = some (.int .i64 (xu : Nat)) := HB4.out.cell 1
  have c7 : w4.cell? ⟨R.g, 7, none⟩ = some (.slice (some ⟨b, 0, none⟩) 1 1) := by have := A4.out.blk.cell 7; rw [this]; show some (outV R.o) = _; rw [EO.out]; rfl
  have c2 : w4.cell? ⟨R.g, 2, none⟩ = some (.int .i64 s.rest) := A4.out.blk.cell 2
  have cR : w4.cell? ⟨R.g, 8 + xu, none⟩ = some (.int .i64 (s.till (xu : Nat))) := by
    rw [A4.out.blk.cell]
    show ([_, _, _, _, _, _, _, _] ++ rests s.till)[8 + xu]? = _
    rw [List.getElem?_append_right (by simp)]
    simpa using rests_get s.till xu (by omega)
  have fz := A4.out.blk.frozen
  refine wp_region_still_tail 18 (by kernel_rfl) (by kernel_rfl) ?_
  simp only [List.take_succ_cons, List.take_zero, List.drop_succ_cons, List.drop_zero]
  repeat still_step
  refine wpStill_nil ?_
  change wpList _ _ _ _ _ w4.drew
  go_upto_region 13 with fail
  have kA : But (fun i => i = R.g) w4 (w4.setCell ⟨R.g, 8 + xu, none⟩ (.int .i64 (now + s.rest))) := But.setCell _ _ rfl
  have kB : But (fun i => i = R.g) (w4.setCell ⟨R.g, 8 + xu, none⟩ (.int .i64 (now + s.rest))) ((w4.setCell ⟨R.g, 8 + xu, none⟩ (.int .i64 (now + s.rest))).setCell ⟨R.g, 7, none⟩ (.slice none 0 0)) := But.setCell _ _ rfl
  have kC : But (fun i => i = R.g) w4 ((w4.setCell ⟨R.g, 8 + xu, none⟩ (.int .i64 (now + s.rest))).setCell ⟨R.g, 7, none⟩ (.slice none 0 0)).drew := (kA.trans kB (fun i _ e => e)).on (Below.refl _ _).drew
  have gC : Blk ((w4.setCell ⟨R.g, 8 + xu, none⟩ (.int .i64 (now + s.rest))).setCell ⟨R.g, 7, none⟩ (.slice none 0 0)).drew R.g 34 (((rcs R { s with now := now }).set (8 + xu) (.int .i64 (now + s.rest))).set 7 (.slice none 0 0)) := ((A4.out.blk.set (8 + xu) (.int .i64 (now + s.rest))).set 7 (.slice none 0 0)).keep (Below.refl _ _).drew
  have eC : ((rcs R { s with now := now }).set (8 + xu) (.int .i64 (now + s.rest))).set 7 (.slice none 0 0) = rcs { R with o := none } (lateS s now (SM.wt ⟨xk, xu, xr, xV, xc⟩)) := by
    show (([_, _, _, _, _, _, _, _] ++ rests s.till).set (8 + xu) _).set 7 _ = _
    rw [set8, rests_set s.till xu (by omega)]
    rfl
  rw [eC] at gC
  have aC := A4.out.goneS kC (lateS s now (SM.wt ⟨xk, xu, xr, xV, xc⟩)) gC rfl rfl
  have bC := B4.out.trans kC (fun i _ e => e)
  have dC := SRP.out.but kC HPG.out
  clear kA kB gC eC c2 c7 cR d1 fz
  generalize ((w4.setCell ⟨R.g, 8 + xu, none⟩ (.int .i64 (now + s.rest))).setCell ⟨R.g, 7, none⟩ (.slice none 0 0)).drew = W0 at *
  obtain ⟨R1, hR1⟩ : ∃ R1 : RL, ({ R with o := none } : RL) = R1 := ⟨_, rfl⟩
  have HRO : Hid (R1.o = none) := hide (by rw [← hR1])
  have HG : Hid (R1.g = R.g) := hide (by rw [← hR1])
  have HS1 : Hid (∀ i, R1.S i → R.S i) := hide (by rw [← hR1]; exact fun i h => RL.S_gone h)
  have hlen1 : R1.ws.length ≤ 64 := by rw [← hR1]; exact hlen
  rw [hR1] at aC
  rw [← HG.out] at bC ⊢
  have HDN : Hid (∀ b o, PA = some ⟨b, o, none⟩ → ¬ b = R1.g) := hide (by rw [HG.out]; exact HPG.out)
  have HD : Hid (DRdN W0 PA 1 [⟨xk, An.none, true, none, 0⟩]) := hide ⟨by show Rd W0 PA (1 * 4) (DM.vs _ ++ []); rw [List.append_nil]; exact dC, by intro d hd; simp at hd; subst hd; exact Rd.nil _ _⟩
  have B0 : Hid (But R1.S w W0) := hide (bC.wide (fun i e => Or.inl e))
  obtain ⟨s0, hs0⟩ : ∃ s0 : MSt, lateS s now (SM.wt ⟨xk, xu, xr, xV, xc⟩) = s0 := ⟨_, rfl⟩
  rw [hs0] at aC OK0 ⊢
  have A0 := hide aC
  have HS0 := hide hs0
  clear hR1 hs0 aC bC dC kC hlen
  go_wp2_with fail
  go_loopw [8, 9] (fun v8 v9 wr => (∃ j q : Nat, v8 = .slice none 0 0 ∧ v9 = .int .i64 (j : Int) ∧ j ≤ R1.ws.length ∧ wr = W0.drewN q ∧ (∀ y ∈ s0.line.take j, now < s0.till y.u)) ∨ (∃ (O : Option Addr) (k : Nat) (y : SM) (R' : RL) (j : Nat), v8 = .slice O 1 k ∧ v9 = .int .i64 (j : Int) ∧ j ≤ R1.ws.length + 1 ∧ FinR R1 s0 now w W0 O y R' wr)) (fun _ v9 _ => R1.ws.length + 2 - (intOf v9).toNat)
  case atStart => exact .inl ⟨0, 0, rfl, rfl, Nat.zero_le _, rfl, by simp⟩
  case round =>
    rcases hrel with ⟨j, q, rfl, rfl, hj, rfl, hall⟩ | ⟨O, k, y, R', j, rfl, rfl, hj, hfin⟩
    · by_cases hlt : j < R1.ws.length
      · have HALL := hide hall
        obtain ⟨bA, oA, eA, hbA, hcA⟩ := (ownS_rd A0.out.row).2 (by omega)
        have hiw : R1.ws[j]? = some R1.ws[j] := List.getElem?_eq_getElem hlt
        have hcc : ∀ i v, (SM.vs R1.ws[j] ++ [Value.int .i64 0])[i]? = some v → W0.cell? ⟨bA, oA + (j * 10 + i), none⟩ = some v := fun i v hv => hcA _ _ ((avs_get R1.ws j _ i hiw (by have := (List.getElem?_eq_some_iff.1 hv).1; exact this)).trans hv)
        have hyl : s0.line[j]? = some (SM.wt R1.ws[j]) := by rw [← A0.out.wl, List.getElem?_map, hiw]; rfl
        have hym := OK0.out.may (SM.wt R1.ws[j]) (List.mem_of_getElem? hyl)
        have hyo := A0.out.own R1.ws[j] (List.getElem_mem hlt)
        have HIW := hide hiw
        have HYL := hide hyl
        generalize R1.ws[j] = y at *
        obtain ⟨tk, yu, r, V, k⟩ := y
        obtain ⟨un, hun⟩ : ∃ un : Nat, yu = (un : Int) := ⟨yu.toNat, by have : (0:Int) ≤ yu := hym.2.1; omega⟩
        subst hun
        have hun : un ≤ 247 := by have : ((un : Nat) : Int) ≤ 247 := hym.2.2.1; omega
        have d0 : W0.cell? ⟨bA, oA + j * 10, none⟩ = some (.int .i64 (tk : Nat)) := by simpa using hcc 0 _ rfl
        have d1 : W0.cell? ⟨bA, oA + j * 10 + 1, none⟩ = some (.int .i64 (un : Nat)) := hcc 1 _ rfl
        have d2 : W0.cell? ⟨bA, oA + j * 10 + 2, none⟩ = some (.int .i64 r.f) := hcc 2 _ rfl
        have d3 : W0.cell? ⟨bA, oA + j * 10 + 3, none⟩ = some (.int .i64 r.a) := hcc 3 _ rfl
        have d4 : W0.cell? ⟨bA, oA + j * 10 + 4, none⟩ = some (.int .i64 r.c) := hcc 4 _ rfl
        have d5 : W0.cell? ⟨bA, oA + j * 10 + 5, none⟩ = some (.slice V r.vs.length k) := hcc 5 _ rfl
        have d6 : W0.cell? ⟨bA, oA + j * 10 + 6, none⟩ = some (.int .i64 r.t) := hcc 6 _ rfl
        have d7 : W0.cell? ⟨bA, oA + j * 10 + 7, none⟩ = some (.int .i64 r.an) := hcc 7 _ rfl
        have d8 : W0.cell? ⟨bA, oA + j * 10 + 8, none⟩ = some (.int .i64 r.o) := hcc 8 _ rfl
        have d9 : W0.cell? ⟨bA, oA + j * 10 + 9, none⟩ = some (.int .i64 0) := hcc 9 _ rfl
        have dR : W0.cell? ⟨R1.g, 8 + un, none⟩ = some (.int .i64 (s0.till (un : Nat))) := by
          rw [A0.out.blk.cell]
          show ([_, _, _, _, _, _, _, _] ++ rests s0.till)[8 + un]? = _
          rw [List.getElem?_append_right (by simp)]
          simpa using rests_get s0.till un (by omega)
        have c6 : W0.cell? ⟨R1.g, 6, none⟩ = some (.slice (some ⟨bA, oA, none⟩) R1.ws.length R1.k) := by rw [← eA]; exact A0.out.blk.cell 6
        have c7 : W0.cell? ⟨R1.g, 7, none⟩ = some (.slice none 0 0) := by have := A0.out.blk.cell 7; rw [this]; show some (outV R1.o) = _; rw [HRO.out]; rfl
        have qj : (j : Int) < (R1.ws.length : Int) := by omega
        have qu : (un : Int) < 248 := by omega
        have HYM := hide hym
        have HYO := hide hyo
        clear hcc hcA hall hiw hyl hym hyo hbA
        generalize hT : s0.till (un : Nat) = TT at *
        have HT := hide hT
        clear hT
        by_cases hfree : now < TT
        · have qf : decide (now < TT) = true := decide_eq_true hfree
          go_wp2_with fail
          go_quiet (fail)
          go_wp2_with fail
          refine ⟨.inl ⟨j + 1, q + nq, rfl, by go_num, by omega, rfl, ?_⟩, by simp only [intOf]; omega⟩
          intro z hz
          rw [List.take_add_one, HYL.out] at hz
          rcases List.mem_append.1 hz with hz | hz
          · exact HALL.out z hz
          · simp at hz
            subst hz
            show now < s0.till (un : Nat)
            rw [HT.out]
            exact hfree
        · have qf : decide (now < TT) = false := decide_eq_false hfree
          go_upto_region 17 with fail
          go_quiet (fail)
          go_upto_region 18 with fail
          have bU0 : Below W0.heap.size W0 (W0.drewN (q + nq)) := below_drewN (Below.refl _ _) _
          have AU := hide (A0.out.keep bU0)
          have BU := hide (B0.out.on bU0)
          have HYU := hide (HYO.out.keep bU0)
          have BUW := hide (But.ofBelow bU0 (fun i => i = R1.g))
          replace d0 : (W0.drewN (q + nq)).cell? ⟨bA, oA + j * 10, none⟩ = some (.int .i64 (tk : Nat)) := d0
          replace d1 : (W0.drewN (q + nq)).cell? ⟨bA, oA + j * 10 + 1, none⟩ = some (.int .i64 (un : Nat)) := d1
          replace d2 : (W0.drewN (q + nq)).cell? ⟨bA, oA + j * 10 + 2, none⟩ = some (.int .i64 r.f) := d2
          replace d3 : (W0.drewN (q + nq)).cell? ⟨bA, oA + j * 10 + 3, none⟩ = some (.int .i64 r.a) := d3
          replace d4 : (W0.drewN (q + nq)).cell? ⟨bA, oA + j * 10 + 4, none⟩ = some (.int .i64 r.c) := d4
          replace d5 : (W0.drewN (q + nq)).cell? ⟨bA, oA + j * 10 + 5, none⟩ = some (.slice V r.vs.length k) := d5
          replace d6 : (W0.drewN (q + nq)).cell? ⟨bA, oA + j * 10 + 6, none⟩ = some (.int .i64 r.t) := d6
          replace d7 : (W0.drewN (q + nq)).cell? ⟨bA, oA + j * 10 + 7, none⟩ = some (.int .i64 r.an) := d7
          replace d8 : (W0.drewN (q + nq)).cell? ⟨bA, oA + j * 10 + 8, none⟩ = some (.int .i64 r.o) := d8
          replace d9 : (W0.drewN (q + nq)).cell? ⟨bA, oA + j * 10 + 9, none⟩ = some (.int .i64 0) := d9
          replace c6 : (W0.drewN (q + nq)).cell? ⟨R1.g, 6, none⟩ = some (.slice (some ⟨bA, oA, none⟩) R1.ws.length R1.k) := c6
          clear bU0 c7 dR HYO
          try rw [World.drewN_drewN]
          generalize W0.drewN (q + nq) = U at *
          go_upto_region 19 with fail
          generalize hV1 : U.alloc _ = V1
          obtain ⟨zV, bV⟩ := box1 U 53 (SM.vs ⟨tk, un, r, V, k⟩ ++ [Value.int .i64 0]) V1 hV1.symm
          obtain ⟨p, hp⟩ : ∃ p, U.heap.size = p := ⟨_, rfl⟩
          have AV := AU.out.keep bV
          have hpg : p ≠ R1.g := by rw [← hp]; exact zV.ne AV.blk (by decide)
          have hgU : R1.g < U.heap.size := AU.out.blk.lt
          rw [hp] at zV ⊢
          have p9 : V1.cell? ⟨p, 9, none⟩ = some (.int .i64 0) := zV.cell 9
          have fp := zV.frozen
          have g4 : V1.cell? ⟨R1.g, 4, none⟩ = some (.int .i64 s0.last) := AV.blk.cell 4
          have fg := AV.blk.frozen
          have k0 : But (fun i => i = R1.g) U V1 := But.ofBelow bV _
          have HP := hide hp
          have BU1 := hide k0
          have ZV := hide zV
          have GV := hide AV.blk
          clear hV1 bV AV zV k0 hp d0 d1 d2 d3 d4 d5 d6 d7 d8 d9 c6
          go_upto_region 21 with fail
          have k1 : But (fun i => i = p) V1 (V1.setCell ⟨p, 9, none⟩ (.int .i64 1)) := But.setCell V1 _ rfl
          have k2 : But (fun i => i = R1.g) (V1.setCell ⟨p, 9, none⟩ (.int .i64 1)) ((V1.setCell ⟨p, 9, none⟩ (.int .i64 1)).setCell ⟨R1.g, 4, none⟩ (.int .i64 now)) := But.setCell _ _ rfl
          have zX := (ZV.out.set 9 (.int .i64 1)).but k2 hpg
          have gX := (GV.out.but k1 (fun e => hpg e.symm)).set 4 (.int .i64 now)
          have bX : But (fun i => i = R1.g) U ((V1.setCell ⟨p, 9, none⟩ (.int .i64 1)).setCell ⟨R1.g, 4, none⟩ (.int .i64 now)) := (BU1.out.trans k1 (fun i hi e => by have := HP.out; omega)).trans k2 (fun i _ e => e)
          clear p9 fp g4 fg k1 k2
          generalize (V1.setCell ⟨p, 9, none⟩ (.int .i64 1)).setCell ⟨R1.g, 4, none⟩ (.int .i64 now) = X2 at *
          have e0 : X2.cell? ⟨p, 0, none⟩ = some (.int .i64 (tk : Nat)) := zX.cell 0
          have e1 : X2.cell? ⟨p, 1, none⟩ = some (.int .i64 (un : Nat)) := zX.cell 1
          have e2 : X2.cell? ⟨p, 2, none⟩ = some (.int .i64 r.f) := zX.cell 2
          have e3 : X2.cell? ⟨p, 3, none⟩ = some (.int .i64 r.a) := zX.cell 3
          have e4 : X2.cell? ⟨p, 4, none⟩ = some (.int .i64 r.c) := zX.cell 4
          have e5 : X2.cell? ⟨p, 5, none⟩ = some (.slice V r.vs.length k) := zX.cell 5
          have e6 : X2.cell? ⟨p, 6, none⟩ = some (.int .i64 r.t) := zX.cell 6
          have e7 : X2.cell? ⟨p, 7, none⟩ = some (.int .i64 r.an) := zX.cell 7
          have e8 : X2.cell? ⟨p, 8, none⟩ = some (.int .i64 r.o) := zX.cell 8
          have e9 : X2.cell? ⟨p, 9, none⟩ = some (.int .i64 1) := zX.cell 9
          have g7 : X2.cell? ⟨R1.g, 7, none⟩ = some (outV R1.o) := gX.cell 7
          have fg := gX.frozen
          have lg : R1.g < X2.heap.size := gX.lt
          have ZX := hide zX
          have GX := hide gX
          have BX2 := hide bX
          clear zX gX bX
          go_upto_region 22 with fail
          obtain ⟨o3, ho3⟩ : ∃ o3, X2.heap.size = o3 := ⟨_, rfl⟩
          rw [ho3]
          have k3 : But (fun i => i = R1.g) X2 (X2.setCell ⟨R1.g, 7, none⟩ (.slice (some ⟨o3, 0, none⟩) 1 1)) := But.setCell _ _ rfl
          have gY0 := GX.out.set 7 (.slice (some ⟨o3, 0, none⟩) 1 1)
          have zY0 := ZX.out.but k3 hpg
          have hsz : (X2.setCell ⟨R1.g, 7, none⟩ (.slice (some ⟨o3, 0, none⟩) 1 1)).heap.size = o3 := by rw [← ho3]; simp [World.setCell]
          have bY0 : But (fun i => i = R1.g) U (X2.setCell ⟨R1.g, 7, none⟩ (.slice (some ⟨o3, 0, none⟩) 1 1)) := BX2.out.trans k3 (fun i _ e => e)
          have HO3 := hide ho3
          clear e0 e1 e2 e3 e4 e5 e6 e7 e8 e9 g7 fg lg k3 ho3
          generalize X2.setCell ⟨R1.g, 7, none⟩ (.slice (some ⟨o3, 0, none⟩) 1 1) = X2' at *
          generalize hV3 : X2'.alloc _ = X3
          obtain ⟨oY, bO⟩ := box1 X2' 53 (SM.vs ⟨tk, un, r, V, k⟩ ++ [Value.int .i64 1]) X3 hV3.symm
          rw [hsz] at oY
          have gY := gY0.keep bO
          have zY := zY0.keep bO
          have bY := bY0.on bO
          have hog : o3 ≠ R1.g := oY.ne gY (by decide)
          clear hV3 bO gY0 zY0 bY0 hsz
          have e0 : X3.cell? ⟨p, 0, none⟩ = some (.int .i64 (tk : Nat)) := zY.cell 0
          have e1 : X3.cell? ⟨p, 1, none⟩ = some (.int .i64 (un : Nat)) := zY.cell 1
          have e2 : X3.cell? ⟨p, 2, none⟩ = some (.int .i64 r.f) := zY.cell 2
          have e3 : X3.cell? ⟨p, 3, none⟩ = some (.int .i64 r.a) := zY.cell 3
          have e4 : X3.cell? ⟨p, 4, none⟩ = some (.int .i64 r.c) := zY.cell 4
          have e5 : X3.cell? ⟨p, 5, none⟩ = some (.slice V r.vs.length k) := zY.cell 5
          have e6 : X3.cell? ⟨p, 6, none⟩ = some (.int .i64 r.t) := zY.cell 6
          have e7 : X3.cell? ⟨p, 7, none⟩ = some (.int .i64 r.an) := zY.cell 7
          have e8 : X3.cell? ⟨p, 8, none⟩ = some (.int .i64 r.o) := zY.cell 8
          have GY := hide gY
          have OY := hide oY
          have BY := hide bY
          clear gY zY oY bY
          go_upto_region 23 with (at_builtin; refine wpList_appS rfl (.tmp 163) (.tmp 166) 43 rfl 51 _ 9 88 Try.underlying43 send_info3 rfl (by decide) 0 none 0 0 [] rfl (World.ownsRow_nil _ _ _ _) (some ⟨X3.heap.size, 0, none⟩) 1 1 (svs [⟨tk, un, r, V, k⟩]) rfl (rd_send X3 ⟨tk, un, r, V, k⟩) (svs_one _) (by unfold maxLen; omega) (by omega) (Nat.zero_le _) ?_; intro A4 k4 w4 o4 b4 h4)
          rw [Nat.zero_add, List.nil_append] at o4
          have bA4 : Below X3.heap.size X3 (X3.alloc (.cells #[.int .i64 (tk : Nat), .int .i64 (un : Nat), .int .i64 r.f, .int .i64 r.a, .int .i64 r.c, .slice V r.vs.length k, .int .i64 r.t, .int .i64 r.an, .int .i64 r.o] 51)) := (Below.refl _ _).alloc (Nat.le_refl _) _
          have nf : ∀ i : Nat, ¬ ∃ o, (none : Option Addr) = some ⟨i, o, none⟩ := fun i ⟨_, h⟩ => by cases h
          have G4 := hide ((GY.out.keep bA4).but b4 (nf _))
          have O4 := hide ((OY.out.keep bA4).but b4 (nf _))
          have BU4 := hide ((BY.out.on bA4).trans b4 (fun i _ h => (nf i h).elim))
          have hA4 : ∀ b o, A4 = some ⟨b, o, none⟩ → b < w4.heap.size := fun b o e => ownS_lt o4 b o e
          have HA4g := hide (show ∀ b o, A4 = some ⟨b, o, none⟩ → b ≠ R1.g from fun b o e => own_ne o4 G4.out (by decide) e)
          have SR4 := hide (ownS_rd o4)
          have HA4 := hide hA4
          have hcap := ownS_cap AU.out.row
          have ROW4 := hide ((ownS_rd AU.out.row).but BU4.out (fun b o e h' => AU.out.ne.1 b o e h'))
          have EA := hide eA
          clear e0 e1 e2 e3 e4 e5 e6 e7 e8 o4 b4 h4 bA4 hA4 eA
          have c64 : w4.cell? ⟨R1.g, 6, none⟩ = some (.slice R1.A R1.ws.length R1.k) := G4.out.cell 6
          have hsl1 := fun W => run_slToS (P := Try.prog) 31 53 10 Try.underlying31 asked_size R1.A R1.ws.length R1.k (j : Int) j rfl (by omega) W
          have hsl2 := fun W => run_slTailT (P := Try.prog) 31 53 10 Try.underlying31 asked_size R1.A R1.ws.length R1.k ((j : Int) + 1) (j + 1) (by omega) (by omega) W
          obtain ⟨M, hM⟩ : ∃ M, R1.ws.length - (j + 1) = M := ⟨_, rfl⟩
          rw [hM] at hsl2
          have HM := hide hM
          go_upto_region 25 with (at_builtin; refine wpList_appS rfl (.tmp 168) (.tmp 174) 31 rfl 53 _ 10 96 Try.underlying31 asked_info rfl (by decide) 0 none 0 0 [] rfl (World.ownsRow_nil _ _ _ _) R1.A j R1.k (avs (R1.ws.take j)) rfl (rdA_take ROW4.out j (by omega)) (avs_one _) (by unfold maxLen; omega) (by omega) (Nat.zero_le _) ?_; intro A5 k5 w5 o5 b5 h5)
          rw [Nat.zero_add, List.nil_append] at o5
          have G5 := hide (G4.out.but b5 (nf _))
          have O5 := hide (O4.out.but b5 (nf _))
          have BU5 := hide (BU4.out.trans b5 (fun i _ h => (nf i h).elim))
          have SR5 := hide (SR4.out.but b5 (fun b o e h' => nf b h'))
          have ROW5 := hide (ROW4.out.but b5 (fun b o e h' => nf b h'))
          have hs45 := b5.size
          have H5 := hide h5
          have c65 : w5.cell? ⟨R1.g, 6, none⟩ = some (.slice R1.A R1.ws.length R1.k) := G5.out.cell 6
          clear c64 b5 h5
          go_upto_region 26 with (at_builtin; refine wpList_appS rfl (.tmp 176) (.tmp 183) 31 rfl 53 _ 10 96 Try.underlying31 asked_info rfl (by decide) 0 A5 j k5 (avs (R1.ws.take j)) rfl o5 (cutAT 10 R1.A (j + 1) R1.k) M (R1.k - (j + 1)) (avs (R1.ws.drop (j + 1))) rfl (by rw [← HM.out]; exact rdA_drop ROW5.out (j + 1) (by omega) hcap) (avs_one _) (by unfold maxLen; omega) (by omega) (Nat.zero_le _) ?_; intro A6 k6 w6 o6 b6 h6)
          have hlt6 : ∀ i, i < w4.heap.size → ¬ ∃ o, A5 = some ⟨i, o, none⟩ := by
            rintro i hi ⟨o, e⟩
            rcases H5.out with h | h
            · rw [h] at e; cases e
            · have := h i o e; omega
          have hg4 : R1.g < w4.heap.size := G4.out.lt
          have ho4 : o3 < w4.heap.size := O4.out.lt
          have hU4 : U.heap.size ≤ w4.heap.size := BU4.out.size
          have G6 := hide (G5.out.but b6 (hlt6 _ hg4))
          have O6 := hide (O5.out.but b6 (hlt6 _ ho4))
          have BU6 := hide (BU5.out.trans b6 (fun i hi h => (hlt6 i (by omega) h).elim))
          have SR6 := hide (SR5.out.but b6 (fun b o e h' => hlt6 b (HA4.out b o e) h'))
          have c66 : w6.cell? ⟨R1.g, 6, none⟩ = some (.slice R1.A R1.ws.length R1.k) := G6.out.cell 6
          have fg6 := G6.out.frozen
          have hA6 : ∀ b o, A6 = some ⟨b, o, none⟩ → U.heap.size ≤ b ∧ b ≠ o3 := by
            intro b o e
            have h1 : w4.heap.size ≤ b := by
              rcases h6 with h | h
              · rcases H5.out with h5 | h5
                · rw [h, h5] at e; cases e
                · exact h5 b o (by rw [← h]; exact e)
              · have := h b o e; omega
            exact ⟨by omega, by omega⟩
          have HA6 := hide hA6
          have O6R := hide o6
          have HQ := hide (show U.heap.size ≤ o3 by have h1 := HP.out; have h2 := HO3.out; have h3 := BX2.out.size; omega)
          clear c65 hsl1 hsl2 o5 b6 h6 hA6 hlt6 hs45 o6
          go_wp2_with fail
          have kF : But (fun i => i = R1.g) w6 (w6.setCell ⟨R1.g, 6, none⟩ (.slice A6 (j + M) k6)) := But.setCell _ _ rfl
          have hlenF : (R1.ws.take j ++ R1.ws.drop (j + 1)).length = j + M := by rw [List.length_append, List.length_take, List.length_drop, HM.out]; omega
          have hfree : s0.till (SM.wt ⟨tk, un, r, V, k⟩).u ≤ now := by show s0.till (un : Nat) ≤ now; rw [HT.out]; omega
          have hsd := sendS_some (freeAt_at s0.line j _ HYL.out HALL.out hfree)
          have hews : R1.ws = R1.ws.take j ++ ⟨tk, un, r, V, k⟩ :: R1.ws.drop (j + 1) := by
            have h1 := (List.getElem?_eq_some_iff.1 HIW.out)
            obtain ⟨h2, h3⟩ := h1
            rw [← h3]
            exact (List.take_append_drop j R1.ws).symm.trans (by rw [List.drop_eq_getElem_cons h2])
          have hR' := AU.out.sent (o3 := o3) (A3 := A6) (k3 := k6) hews (BU6.out.trans kF (fun i _ e => e)) (sendS s0 now).2 (by
            rw [hsd]
            have := G6.out.set 6 (.slice A6 (j + M) k6)
            have e : rcs { g := R1.g, A := A6, k := k6, ws := R1.ws.take j ++ R1.ws.drop (j + 1), o := some (o3, (⟨tk, un, r, V, k⟩ : SM)) } { s0 with line := s0.line.take j ++ s0.line.drop (j + 1), out := some (SM.wt ⟨tk, un, r, V, k⟩, 1), last := now } = (((rcs R1 s0).set 4 (.int .i64 now)).set 7 (.slice (some ⟨o3, 0, none⟩) 1 1)).set 6 (.slice A6 (j + M) k6) := by
              show [_, _, _, _, _, _, _, _] ++ rests _ = ((([_, _, _, _, _, _, _, _] ++ rests _).set 4 _).set 7 _).set 6 _
              simp only [hlenF]
              rfl
            rw [e]
            exact this) (by
            rw [hlenF, avs_append]
            exact ownS_but O6R.out kF (fun b o e h' => by have h1 := HA6.out b o e; have h2 := AU.out.blk.lt; omega)) (O6.out.but kF hog) (fun bb o e => (HA6.out bb o e).2) (by
            rw [hsd, List.map_append, List.map_take, List.map_drop, AU.out.wl]) (by rw [hsd])
          refine ⟨.inr ⟨A4, k4, ⟨tk, un, r, V, k⟩, _, j + 1, rfl, by go_num, by omega, by rw [hsd], ⟨SR6.out.but kF (fun b o e h' => HA4g.out b o e h'), by intro x hx; simp at hx; subst hx; exact ((hR'.out.lay rfl).choose_spec.2).is⟩, hR', rfl, BU.out.trans (BU6.out.trans kF (fun i _ e => e)) (fun i _ e => Or.inl e), ?_, ⟨_, rfl⟩, BUW.out.trans (BU6.out.trans kF (fun i _ e => e)) (fun i _ e => e)⟩, by simp only [intOf]; omega⟩
          have hwU := BU.out.size
          rintro i (e | ⟨o, e⟩ | ⟨y', e⟩)
          · exact Or.inl (Or.inl e)
          · have := (HA6.out i o e).1
            exact Or.inr (by omega)
          · injection e with e
            injection e with e1 _
            have := HQ.out
            exact Or.inr (by omega)
      · obtain rfl : j = R1.ws.length := by omega
        have c6 : W0.cell? ⟨R1.g, 6, none⟩ = some (.slice R1.A R1.ws.length R1.k) := A0.out.blk.cell 6
        have c7 : W0.cell? ⟨R1.g, 7, none⟩ = some (.slice none 0 0) := by have := A0.out.blk.cell 7; rw [this]; show some (outV R1.o) = _; rw [HRO.out]; rfl
        have HALL := hide hall
        clear hall
        go_wp2_with fail
        go_ret3
        have hf := freeAt_all (till := s0.till) (now := now) s0.line (fun y hy => HALL.out y (by rw [List.take_of_length_le (by rw [← A0.out.wl, List.length_map]; exact Nat.le_refl _)]; exact hy))
        first | rw [HS0.out, sendS_none hf] | rw [sendS_none hf]
        exact ⟨none, PA, 0, pk, [], [⟨xk, An.none, true, none, 0⟩], R1, rfl, rfl, SRd.nil _ _, rfl, HD.out.late (But.ofBelow (below_drewN (Below.refl _ _) _) (fun i => i = R1.g)) HDN.out, A0.out.keep (below_drewN (Below.refl _ _) _), HG.out, (B0.out.on (below_drewN (Below.refl _ _) _)).wide HS1.out, fun i hi => Or.inl (HS1.out i hi)⟩
    · obtain ⟨h1, h2, h3, h4, h5, h6, ⟨⟨p1, p2⟩, h7⟩, h8⟩ := hfin
      have H8 := hide h8
      have hb7 := h3.blk
      rw [h4] at hb7
      have c6 : wr.cell? ⟨R1.g, 6, none⟩ = some (.slice R'.A R'.ws.length R'.k) := hb7.cell 6
      have c7 : wr.cell? ⟨R1.g, 7, none⟩ = some (.slice (some ⟨p1, 0, none⟩) 1 1) := by have := hb7.cell 7; rw [this]; show some (outV R'.o) = _; rw [h7]; rfl
      have H1 := hide h1
      have H2 := hide h2
      have H3 := hide h3
      have H4 := hide h4
      have H5 := hide h5
      have H6 := hide h6
      clear h1 h2 h3 h4 h5 h6 h7 h8 hb7
      go_wp2_with fail
      all_goals
        go_ret3
        try rw [HS0.out]
        exact ⟨O, PA, k, pk, [y], [⟨xk, An.none, true, none, 0⟩], R', rfl, by rw [H1.out]; rfl, H2.out, rfl, HD.out.late H8.out HDN.out, H3.out, H4.out.trans HG.out, H5.out.wide HS1.out, fun i hi => (H6.out i hi).elim (fun e => Or.inl (HS1.out i e)) Or.inr⟩

end Go.Proofs.Ytfpfijggmfeejaa
