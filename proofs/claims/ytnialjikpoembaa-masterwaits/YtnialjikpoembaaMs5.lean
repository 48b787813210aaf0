/-
  What is proved here: what master's end and giveUp return, and what becomes of the master. Condition: the map has at most a million entries.
-/
import Derived.Test.YtnialjikpoembaaMs4
import Derived.StillTailTactics
namespace Go.Proofs.Ytnialjikpoembaa
set_option linter.unusedVariables false
set_option linter.unusedSimpArgs false
open Go.RowKit Go.Maps

theorem below_but {w w' : World} (b : Below w.heap.size w w') (S : Nat → Prop) : But S w w' := But.ofBelow b S
/-- What is out is out no more. -/
theorem MsA.gone {w w' : World} {m : ML} {s : MSt} (h : MsA w m s) (b : But (fun i => i = m.g) w w') (hblk : Blk w' m.g 73 (mcs { m with o := none } { s with out := none })) : MsA w' { m with o := none } { s with out := none } := by
  refine ⟨hblk, h.line.but b (fun _ _ e h' => (h.ne2 _ _ e).1 h') (fun x hx b' o e h' => h.off (h.line.own x hx) b' o e (Or.inl h')), h.wl, trivial, map_but h.mp b (fun e => h.ne1 e.symm), h.rests⟩
theorem ML.S_gone {m : ML} {i : Nat} (h : ({ m with o := none } : ML).S i) : m.S i := by
  rcases h with h | h | h | ⟨y, e⟩
  · exact Or.inl h
  · exact Or.inr (Or.inl h)
  · exact Or.inr (Or.inr (Or.inl h))
  · cases e
/-- What end answers. -/
def RetEnd (m : ML) (s : MSt) (d : DM) (w : World) (e : Ending) (w' : World) : Prop :=
  ∃ O, e = .returned (.slice (some ⟨O, 0, none⟩) 1 1) ∧ Blk w' O 63 d.vs ∧ w.heap.size ≤ O ∧ MsA w' { m with o := none } { s with out := none } ∧ But (fun i => i = m.g) w w'
theorem msEnd (m : ML) (s : MSt) (x : Wt) (t : Int) (tk : Int) (an : An) (late : Bool) (V : Option Addr) (k : Nat) (w : World) (h : MsA w m s) (ho : s.out = some (x, t)) :
    Calls Try.prog 39 #[.pointer (some ⟨m.g, 0, none⟩), .agg #[.int .i64 tk, .slice V an.us.length k, .int .i64 an.code, .bool late]] w (RetEnd m s ⟨x.tk, an, late, V, k⟩ w) := by
  obtain ⟨c0, c1, c2, c3, c4, c5, c6, c7⟩ := h.blk.eight
  have hO := h.out
  rw [ho] at hO
  obtain ⟨b, y, eo, ey, hB, _⟩ := hO.some_
  have htk : y.tk = x.tk := by rw [← ey]; rfl
  obtain ⟨yk, yu, yr, yV, yn⟩ := y
  simp only at htk
  subst htk
  have d0 : w.cell? ⟨b, 0, none⟩ = some (.int .i64 (x.tk : Nat)) := hB.cell 0
  rw [eo] at c6
  simp only [optP] at c6
  have fz := h.blk.frozen
  have hgl := h.blk.lt
  have hbl := hB.lt
  have H := hide h
  have EY := hide ey
  clear h hO hB eo c0 c1 c2 c3 c4 c5 c7 ey ho
  go_enter Try.func39, Try.ntmps39
  go_wp2_with fail
  go_ret
  have hX : But (fun i => i = m.g) w (w.setCell ⟨m.g, 6, none⟩ (.pointer none)) := But.setCell w _ rfl
  have hA : MsA (w.setCell ⟨m.g, 6, none⟩ (.pointer none)) { m with o := none } { s with out := none } := H.out.gone hX (H.out.blk.set 6 _)
  have hsz : (w.setCell ⟨m.g, 6, none⟩ (.pointer none)).heap.size = w.heap.size := by simp
  generalize w.setCell ⟨m.g, 6, none⟩ (.pointer none) = X at *
  generalize hY : (X.alloc _).alloc _ = Y
  obtain ⟨_, z2, bY, _⟩ := two_boxes X [.int .i64 (x.tk : Nat), .slice V an.us.length k, .int .i64 an.code, .bool late] [.int .i64 (x.tk : Nat), .slice V an.us.length k, .int .i64 an.code, .bool late] _ _ Y hY.symm
  rw [hsz] at z2
  exact ⟨w.heap.size + 1, rfl, z2, Nat.le_succ _, hA.keep bY, hX.on bY⟩

theorem int_keyed7 : Keyed Try.prog 3 := int_keyed Try.underlying3
/-- A unit's rest begins. -/
theorem RestR.late {s : MSt} {D : DataW Unit} (h : RestR s D) (hm : IsMap D) (x : Wt) (now : Int) (h0 : 0 ≤ now) (hn : s.now = now) : RestR (lateS s now x) (D.put (.int .i64 x.u) (.lit (.int .i64 now))) := by
  intro u u0 u1
  by_cases hu : u = x.u
  · subst hu
    have hk : WideAt.IsKeyLit (.int .i64 x.u) := trivial
    refine ⟨fun _ => ⟨now, fun zd => atKey_put_same hm hk _ _, ?_, h0, Int.le_refl _⟩, fun hh => ?_⟩
    · show (if x.u = x.u then now + s.rest else _) = _
      rw [if_pos rfl]
      rfl
    · rw [has_put_same hm hk] at hh
      cases hh
  · have hne : (Lit.int .i64 u) ≠ (Lit.int .i64 x.u) := by
      intro e
      injection e with _ e
      exact hu e
    obtain ⟨a, b⟩ := h u u0 u1
    have ht : (lateS s now x).till u = s.till u := by
      show (if u = x.u then _ else _) = _
      rw [if_neg hu]
    rw [has_put_other hne, ht]
    refine ⟨fun hh => ?_, fun hh => ?_⟩
    · obtain ⟨c, p, q, r, t⟩ := a hh
      exact ⟨c, fun zd => (atKey_put_other hne _ _).trans (p zd), q, r, by show c ≤ now; omega⟩
    · have := b hh
      show s.till u ≤ now
      omega
/-- Its map alone was written. -/
theorem MsA.turnM {w w' : World} {m : ML} {s : MSt} (h : MsA w m s) (b : But (fun i => i = m.gm) w w') (n' : Nat) (D' : DataW Unit) (s' : MSt) (hm : w'.ownsMap Try.prog 3 (plainElem Try.prog 3) m.gm n' D') (hr : RestR s' D')
    (he : mcs m s' = mcs m s) (h1 : s'.line = s.line) (h2 : s'.out = s.out) (h3 : s'.last = s.last) : MsA w' { m with n := n', D := D' } s' := by
  refine ⟨?_, h.line.but b (fun _ _ e h' => (h.ne2 _ _ e).2 h') (fun x hx b' o e h' => h.off (h.line.own x hx) b' o e (Or.inr (Or.inl h'))), h.wl.trans h1.symm, ?_, hm, hr⟩
  · show Blk w' m.g 73 (mcs m s')
    rw [he]
    exact h.blk.but b h.ne1
  · rw [h2, h3]
    refine h.out.but b (fun b' y e => ⟨(h.ne3 b' y e).2.1, ?_⟩)
    obtain ⟨t, _, ho⟩ := h.out.lay e
    exact fun b'' o'' e'' h'' => h.off ho b'' o'' e'' (Or.inr (Or.inl h''))
theorem turned_but {w w' : World} {b : Nat} (h : w.drew.mapTurned w' b) : But (fun i => i = b) w w' := by
  have g := h.grown
  exact ⟨g.os, g.tape, g.output, g.size, fun i hi hs => g.block i hi (fun e => hs (Option.some.inj e))⟩
def lateD : DataW Unit → Int → Int → DataW Unit := fun D u now => D.put (.int .i64 u) (.lit (.int .i64 now))
/-- What giveUp answers. -/
def RetGive (m : ML) (s : MSt) (x : Wt) (now : Int) (w : World) (e : Ending) (w' : World) : Prop :=
  ∃ O, e = .returned (.slice (some ⟨O, 0, none⟩) 1 1) ∧ Blk w' O 63 (DM.vs ⟨x.tk, An.none, true, none, 0⟩) ∧ w.heap.size ≤ O ∧ MsA w' { m with o := none, n := m.n + 1, D := lateD m.D x.u now } (lateS s now x) ∧ But m.S w w'
set_option maxRecDepth 100000 in
theorem msGive (m : ML) (s : MSt) (x : Wt) (t now : Int) (w : World) (h : MsA w m s) (ho : s.out = some (x, t)) (hn : s.now = now) (h0 : 0 ≤ now) (hw : now ≤ 9223372036854775807) (hu : 0 ≤ x.u) (hu' : x.u ≤ 247) (hm : m.n ≤ 1000000) :
    Calls Try.prog 32 #[.pointer (some ⟨m.g, 0, none⟩), .int .i64 now] w (RetGive m s x now w) := by
  obtain ⟨c0, c1, c2, c3, c4, c5, c6, c7⟩ := h.blk.eight
  have hO := h.out
  rw [ho] at hO
  obtain ⟨b, y, eo, ey, hB, _⟩ := hO.some_
  have hyu : y.u = x.u := by rw [← ey]; rfl
  obtain ⟨yk, yu, yr, yV, yn⟩ := y
  simp only at hyu
  have d1 : w.cell? ⟨b, 1, none⟩ = some (.int .i64 x.u) := by rw [← hyu]; exact hB.cell 1
  rw [eo] at c6
  simp only [optP] at c6
  have hst := h.mp.drew.store int_keyed7 Try.underlying70 (by unfold maxLen; omega) (keyOf_int_mk Try.underlying3 (WalkArith.wf_i64 (n := x.u) (by omega))) (plainElem_int (a := now) Try.underlying3 (WalkArith.wf_i64 (by omega)))
  obtain ⟨w1, hrun, hm1, ht1⟩ := hst
  have H := hide h
  have HN := hide (And.intro hn h0)
  have HO := hide ho
  have M1 := hide hm1
  have T1 := hide ht1
  clear h hO hB eo c0 c1 c2 c3 c4 c5 ey hyu hn ho h0 hm1 ht1 hu hu' hm hw
  go_enter Try.func32, Try.ntmps32
  go_wp2_with fail
  refine wp_region_still_tail 13 (by kernel_rfl) (by kernel_rfl) ?_
  simp only [List.take_succ_cons, List.take_zero, List.drop_succ_cons, List.drop_zero]
  repeat still_step
  refine wpStill_nil ?_
  change wpList _ _ _ _ _ w.drew
  go_wp2_with fail
  obtain ⟨hn, h0⟩ := HN.out
  have hb := turned_but T1.out
  have hA : MsA w1 { m with n := m.n + 1, D := lateD m.D x.u now } { s with till := fun u => if u = x.u then now + s.rest else s.till u } :=
    H.out.turnM hb _ _ _ M1.out (by
      have := H.out.rests.late H.out.mp.isMap x now h0 hn
      intro u u0 u1
      have := this u u0 u1
      subst hn
      exact this) rfl rfl rfl rfl
  have HB := hide hb
  clear c6 c7 d1 hb
  refine (msEnd { m with n := m.n + 1, D := lateD m.D x.u now } _ x t 0 An.none true none 0 w1 hA HO.out).mono ?_
  rintro e w2 ⟨O, rfl, z2, hO, a2, b2⟩
  have Z2 := hide z2
  have A2 := hide a2
  have B2 := hide b2
  clear z2 a2 b2 hA
  go_wp2
  go_ret
  have hsz := HB.out.size
  refine ⟨O, rfl, Z2.out, by omega, ?_, ?_⟩
  · have := A2.out
    subst hn
    exact this
  · exact (HB.out.wide (S' := m.S) (fun i e => Or.inr (Or.inl e))).trans B2.out (fun i _ e => Or.inl e)

end Go.Proofs.Ytnialjikpoembaa
