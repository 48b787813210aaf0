/-
  What is proved here: what the document's own Step of layer 7 answers where nothing is sent first, and what becomes of its master. Conditions: the master keeps to MOk; the tick is an int.
-/
import Derived.Test.YtfpfijggmfeejaaRs4
namespace Go.Proofs.Ytfpfijggmfeejaa
set_option linter.unusedVariables false
set_option linter.unusedSimpArgs false
open Go.RowKit Go.Maps

/-- What is done, as cells that read. -/
def DRdN (w : World) (P : Option Addr) (n : Nat) (ds : List DM) : Prop := Rd w P (n * 4) (ds.flatMap DM.vs) ∧ ∀ d ∈ ds, d.is w
theorem DRdN.nil (w : World) (P : Option Addr) : DRdN w P 0 [] := ⟨Rd.nil _ _, by simp⟩
/-- What the document's Step answers. -/
def RetRStep (R : RL) (Z : List Wt × List Dn × Int × MSt) (w : World) (e : Ending) (w' : World) : Prop :=
  ∃ (O P : Option Addr) (k l : Nat) (rs : List SM) (ds : List DM) (R' : RL), e = .returned (.tuple #[.slice O rs.length k, .slice P ds.length l, .int .i64 Z.2.2.1]) ∧ rs.map SM.wt = Z.1 ∧ SRd w' O rs.length rs ∧ ds.map DM.dn = Z.2.1 ∧ DRdN w' P ds.length ds ∧
    RsA w' R' Z.2.2.2 ∧ R'.g = R.g ∧ But R.S w w' ∧ (∀ i, R'.S i → R.S i ∨ w.heap.size ≤ i)
theorem RetRStep.none_ {R : RL} {E : Int} {s' : MSt} {w w' : World} (h : RsA w' R s') (b : But R.S w w') : RetRStep R ([], [], E, s') w (.returned (.tuple #[.slice none 0 0, .slice none 0 0, .int .i64 E])) w' :=
  ⟨none, none, 0, 0, [], [], R, rfl, rfl, SRd.nil _ _, rfl, DRdN.nil _ _, h, rfl, b, fun i h => Or.inl h⟩

set_option maxRecDepth 100000 in
theorem rsStep_bad (R : RL) (s : MSt) (now : Int) (w : World) (h : RsA w R s) (hb : tickBad s now = true) :
    Calls Try.prog 12 #[.pointer (some ⟨R.g, 0, none⟩), .int .i64 now] w (RetRStep R (stepR s now) w) := by
  rw [stepR_bad hb]
  have c3 : w.cell? ⟨R.g, 3, none⟩ = some (.int .i64 s.now) := h.blk.cell 3
  have H := hide h
  clear h
  by_cases h0 : now < 0
  · clear hb
    go_enter Try.func12, Try.ntmps12
    go_wp2
    go_ret3
    exact RetRStep.none_ H.out (But.refl _ _)
  · have h1 : now < s.now := by simp only [tickBad, Bool.or_eq_true, decide_eq_true_eq] at hb; omega
    clear hb
    go_enter Try.func12, Try.ntmps12
    go_wp2
    go_ret3
    exact RetRStep.none_ H.out (But.refl _ _)
set_option maxRecDepth 100000 in
set_option maxHeartbeats 2000000 in
theorem rsStep_wait (R : RL) (s : MSt) (now : Int) (x : Wt) (t : Int) (w : World) (h : RsA w R s) (hk : MOk s) (hw : now ≤ 9223372036854775807) (hb : tickBad s now = false) (ho : s.out = some (x, t)) (hl : now - s.last < s.wait) :
    Calls Try.prog 12 #[.pointer (some ⟨R.g, 0, none⟩), .int .i64 now] w (RetRStep R (stepR s now) w) := by
  rw [stepR_wait hb ho hl]
  obtain ⟨hn0, hn1⟩ := ok_lt hb
  have c3 : w.cell? ⟨R.g, 3, none⟩ = some (.int .i64 s.now) := h.blk.cell 3
  have c0 : w.cell? ⟨R.g, 0, none⟩ = some (.int .i64 s.wait) := h.blk.cell 0
  have c1 : w.cell? ⟨R.g, 1, none⟩ = some (.int .i64 s.again) := h.blk.cell 1
  have c2 : w.cell? ⟨R.g, 2, none⟩ = some (.int .i64 s.rest) := h.blk.cell 2
  have c4 : w.cell? ⟨R.g, 4, none⟩ = some (.int .i64 s.last) := h.blk.cell 4
  have c6 : w.cell? ⟨R.g, 6, none⟩ = some (.slice R.A R.ws.length R.k) := h.blk.cell 6
  have c7 : w.cell? ⟨R.g, 7, none⟩ = some (outV R.o) := h.blk.cell 7
  have fz := h.blk.frozen
  have hX : But (fun i => i = R.g) w (w.setCell ⟨R.g, 3, none⟩ (.int .i64 now)) := But.setCell w _ rfl
  have hAX : RsA (w.setCell ⟨R.g, 3, none⟩ (.int .i64 now)) R { s with now := now } := h.turnG hX { s with now := now } (h.blk.set 3 _) rfl rfl
  have H := hide h
  have AX := hide hAX
  have BX := hide (hX.wide (S' := R.S) (fun i e => Or.inl e))
  have l0 := hk.l0
  have l1 : s.last ≤ now := Int.le_trans hk.l1 hn1
  have q0 : IntKind.i64.wrap (now - s.last) = now - s.last := by rw [IntKind.wrap_i64]; omega
  have hlen : R.ws.length ≤ 64 := by rw [← List.length_map (f := SM.wt), h.wl]; exact hk.len
  clear hb hX hAX
  have hO := h.out
  rw [ho] at hO
  obtain ⟨b, y, eo, ey, hB, hyo⟩ := hO.some_
  have hbg := h.ne.2 b y eo
  rw [eo] at c7
  simp only [outV] at c7
  have q1 : decide (s.wait ≤ now - s.last) = false := decide_eq_false (by omega)
  clear h hO hB hyo eo ey ho hk hl
  go_enter Try.func12, Try.ntmps12
  go_wp2_with fail
  go_quiet (fail)
  go_wp2_with fail
  refine wp_loop_rounds 1 ?_
  rw [rounds_succ]
  go_wp2_with fail
  all_goals
    go_ret3
    exact RetRStep.none_ (AX.out.keep (below_drewN (Below.refl _ _) _)) (BX.out.on (below_drewN (Below.refl _ _) _))

/-- It was sent once more. -/
theorem RsA.again {w w' : World} {R : RL} {s : MSt} (h : RsA w R s) {x : Wt} {t' : Int} {b : Nat} {y : SM} (eo : R.o = some (b, y)) (ey : y.wt = x) (bw : But (fun i => i = R.g ∨ i = b) w w') (s' : MSt) (hblk : Blk w' R.g 34 (rcs R s')) (hb : Blk w' b 53 (y.vs ++ [.int .i64 t'])) (h1 : s'.line = s.line) (h2 : s'.out = some (x, t')) : RsA w' R s' := by
  obtain ⟨t0, hB, hyo⟩ := h.out.lay eo
  have hS : ∀ i, (i = R.g ∨ i = b) → R.S i := fun i e => e.elim Or.inl (fun e => Or.inr (Or.inr ⟨y, by rw [e]; exact eo⟩))
  refine ⟨hblk, ownS_but h.row bw (fun b' o e h' => h'.elim (fun e' => h.ne.1 _ _ e e') (fun e' => h.ap b' o y e (by rw [e']; exact eo))), fun z hz => (h.own z hz).but bw (fun b' o e h' => h.off (h.own z hz) b' o e (hS _ h')), h.wl.trans h1.symm, ?_, h.ap⟩
  rw [h2, eo]
  exact ⟨ey, hb, hyo.but bw (fun b' o e h' => h.off hyo b' o e (hS _ h'))⟩
set_option maxRecDepth 100000 in
set_option maxHeartbeats 2000000 in
theorem rsStep_again (R : RL) (s : MSt) (now : Int) (x : Wt) (t : Int) (w : World) (h : RsA w R s) (hk : MOk s) (hw : now ≤ 9223372036854775807) (hb : tickBad s now = false) (ho : s.out = some (x, t)) (hl : ¬ now - s.last < s.wait) (hn : t < s.again + 1) :
    Calls Try.prog 12 #[.pointer (some ⟨R.g, 0, none⟩), .int .i64 now] w (RetRStep R (stepR s now) w) := by
  rw [stepR_again hb ho hl hn]
  obtain ⟨hn0, hn1⟩ := ok_lt hb
  have c3 : w.cell? ⟨R.g, 3, none⟩ = some (.int .i64 s.now) := h.blk.cell 3
  have c0 : w.cell? ⟨R.g, 0, none⟩ = some (.int .i64 s.wait) := h.blk.cell 0
  have c1 : w.cell? ⟨R.g, 1, none⟩ = some (.int .i64 s.again) := h.blk.cell 1
  have c2 : w.cell? ⟨R.g, 2, none⟩ = some (.int .i64 s.rest) := h.blk.cell 2
  have c4 : w.cell? ⟨R.g, 4, none⟩ = some (.int .i64 s.last) := h.blk.cell 4
  have c6 : w.cell? ⟨R.g, 6, none⟩ = some (.slice R.A R.ws.length R.k) := h.blk.cell 6
  have c7 : w.cell? ⟨R.g, 7, none⟩ = some (outV R.o) := h.blk.cell 7
  have fz := h.blk.frozen
  have hX : But (fun i => i = R.g) w (w.setCell ⟨R.g, 3, none⟩ (.int .i64 now)) := But.setCell w _ rfl
  have hAX : RsA (w.setCell ⟨R.g, 3, none⟩ (.int .i64 now)) R { s with now := now } := h.turnG hX { s with now := now } (h.blk.set 3 _) rfl rfl
  have H := hide h
  have AX := hide hAX
  have BX := hide (hX.wide (S' := R.S) (fun i e => Or.inl e))
  have l0 := hk.l0
  have l1 : s.last ≤ now := Int.le_trans hk.l1 hn1
  have q0 : IntKind.i64.wrap (now - s.last) = now - s.last := by rw [IntKind.wrap_i64]; omega
  have hlen : R.ws.length ≤ 64 := by rw [← List.length_map (f := SM.wt), h.wl]; exact hk.len
  clear hb hX hAX
  have hO := h.out
  rw [ho] at hO
  obtain ⟨b, y, eo, ey, hB, hyo⟩ := hO.some_
  have hbg := h.ne.2 b y eo
  rw [eo] at c7
  simp only [outV] at c7
  have q1 : decide (s.wait ≤ now - s.last) = true := decide_eq_true (by omega)
  have ha16 := hk.a16
  have ht1 := (hk.omay x t ho).2.1
  subst ey
  obtain ⟨tk, yu, r, V, k⟩ := y
  have d0 : w.cell? ⟨b, 0, none⟩ = some (.int .i64 (tk : Nat)) := hB.cell 0
  have d1 : w.cell? ⟨b, 1, none⟩ = some (.int .i64 yu) := hB.cell 1
  have d2 : w.cell? ⟨b, 2, none⟩ = some (.int .i64 r.f) := hB.cell 2
  have d3 : w.cell? ⟨b, 3, none⟩ = some (.int .i64 r.a) := hB.cell 3
  have d4 : w.cell? ⟨b, 4, none⟩ = some (.int .i64 r.c) := hB.cell 4
  have d5 : w.cell? ⟨b, 5, none⟩ = some (.slice V r.vs.length k) := hB.cell 5
  have d6 : w.cell? ⟨b, 6, none⟩ = some (.int .i64 r.t) := hB.cell 6
  have d7 : w.cell? ⟨b, 7, none⟩ = some (.int .i64 r.an) := hB.cell 7
  have d8 : w.cell? ⟨b, 8, none⟩ = some (.int .i64 r.o) := hB.cell 8
  have d9 : w.cell? ⟨b, 9, none⟩ = some (.int .i64 t) := hB.cell 9
  have fb := hB.frozen
  have q2 : IntKind.i64.wrap (s.again + 1) = s.again + 1 := by rw [IntKind.wrap_i64]; omega
  have q3 : decide (t < s.again + 1) = true := decide_eq_true hn
  have q4 : IntKind.i64.wrap (t + 1) = t + 1 := by rw [IntKind.wrap_i64]; omega
  have hgb : R.g ≠ b := fun e => hbg e.symm
  have HBB := hide hB
  have HYO := hide hyo
  have EO := hide eo
  have HO := hide ho
  clear h hO hB hyo eo ho hk hl hn ha16
  go_enter Try.func12, Try.ntmps12
  go_wp2_with fail
  go_quiet (fail)
  go_wp2_with fail
  go_quiet (fail)
  go_wp2_with fail
  all_goals
    go_ret3
    have hBX : Blk (w.setCell ⟨R.g, 3, none⟩ (.int .i64 now)) b 53 (SM.vs ⟨tk, yu, r, V, k⟩ ++ [.int .i64 t]) := HBB.out.but (But.setCell w (.int .i64 now) rfl : But (fun i => i = R.g) w (w.setCell ⟨R.g, 3, none⟩ (.int .i64 now))) hbg
    generalize hX1 : (w.setCell ⟨R.g, 3, none⟩ (.int .i64 now)).drewN _ = X1
    have A1 : RsA X1 R { s with now := now } := by rw [← hX1]; exact AX.out.keep (below_drewN (Below.refl _ _) _)
    have B1 : But R.S w X1 := by rw [← hX1]; exact BX.out.on (below_drewN (Below.refl _ _) _)
    have hB1 : Blk X1 b 53 (SM.vs ⟨tk, yu, r, V, k⟩ ++ [.int .i64 t]) := by rw [← hX1]; exact hBX.keep (below_drewN (Below.refl _ _) _)
    have k1 : But (fun i => i = b) X1 (X1.setCell ⟨b, 9, none⟩ (.int .i64 (t + 1))) := But.setCell X1 _ rfl
    have k2 : But (fun i => i = R.g) (X1.setCell ⟨b, 9, none⟩ (.int .i64 (t + 1))) ((X1.setCell ⟨b, 9, none⟩ (.int .i64 (t + 1))).setCell ⟨R.g, 4, none⟩ (.int .i64 now)) := But.setCell _ _ rfl
    have k3 : But (fun i => i = R.g ∨ i = b) X1 ((X1.setCell ⟨b, 9, none⟩ (.int .i64 (t + 1))).setCell ⟨R.g, 4, none⟩ (.int .i64 now)) := (k1.wide (fun i e => Or.inr e)).trans k2 (fun i _ e => Or.inl e)
    have hA2 := A1.again (t' := t + 1) EO.out rfl k3 { s with now := now, out := some (SM.wt ⟨tk, yu, r, V, k⟩, t + 1), last := now } ((A1.blk.but k1 hgb).set 4 (.int .i64 now)) ((hB1.set 9 (.int .i64 (t + 1))).but k2 hbg) rfl rfl
    have hyo2 : SM.own ((X1.setCell ⟨b, 9, none⟩ (.int .i64 (t + 1))).setCell ⟨R.g, 4, none⟩ (.int .i64 now)) ⟨tk, yu, r, V, k⟩ := by
      obtain ⟨_, _, ho2⟩ := hA2.out.lay EO.out
      exact ho2
    have B2 : But R.S w ((X1.setCell ⟨b, 9, none⟩ (.int .i64 (t + 1))).setCell ⟨R.g, 4, none⟩ (.int .i64 now)) := B1.trans k3 (fun i _ e => e.elim Or.inl (fun e => Or.inr (Or.inr ⟨⟨tk, yu, r, V, k⟩, by rw [e]; exact EO.out⟩)))
    have hsz : ((X1.setCell ⟨b, 9, none⟩ (.int .i64 (t + 1))).setCell ⟨R.g, 4, none⟩ (.int .i64 now)).heap.size = w.heap.size := by rw [← hX1]; simp [World.setCell]
    generalize hV : World.alloc _ _ = U
    obtain ⟨zU, bU⟩ := box1 ((X1.setCell ⟨b, 9, none⟩ (.int .i64 (t + 1))).setCell ⟨R.g, 4, none⟩ (.int .i64 now)) 51 (SM.vs ⟨tk, yu, r, V, k⟩) U hV.symm
    rw [hsz] at zU
    exact ⟨some ⟨w.heap.size, 0, none⟩, none, 1, 0, [⟨tk, yu, r, V, k⟩], [], R, rfl, rfl, ⟨by have h9 : Rd U (some ⟨w.heap.size, 0, none⟩) 9 (SM.vs ⟨tk, yu, r, V, k⟩) := zU.rd; simpa [svs] using h9, by intro x hx; simp at hx; subst hx; exact (hyo2.keep bU).is⟩, rfl, DRdN.nil _ _, hA2.keep bU, rfl, B2.on bU, fun i hi => Or.inl hi⟩

end Go.Proofs.Ytfpfijggmfeejaa
