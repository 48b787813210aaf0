/-
  What is proved here: what master's next returns (the first that waits whose unit does not rest), and what becomes of the master. Condition: at most a million wait.
-/
import Derived.Test.YtnialjikpoembaaMs8
namespace Go.Proofs.Ytnialjikpoembaa
set_option linter.unusedVariables false
set_option linter.unusedSimpArgs false
open Go.RowKit Go.Maps

theorem int_zero7 (w : World) : (zeroValue 3).run Try.prog w = .ok (.int .i64 0) w := by kernel_rfl
/-- _, ok := rests[u]. -/
theorem look7 {w : World} {gm n : Nat} {D : DataW Unit} (h : w.ownsMap Try.prog 3 (plainElem Try.prog 3) gm n D) (u : Int) (h0 : 0 ≤ u) (h1 : u ≤ 247) :
    ∃ c : Int, (Instr.lookup 70 (.map (some gm)) (.int .i64 u) true).run Try.prog w = .ok (.tuple #[.int .i64 c, .bool (has D (.int .i64 u))]) w := by
  obtain ⟨v, ps, hr, hv⟩ := h.look_ok int_keyed7 Try.underlying70 (int_zero7 w) (plainElem_int (a := 0) Try.underlying3 (WalkArith.wf_i64 (by omega))) (keyOf_int_mk Try.underlying3 (WalkArith.wf_i64 (n := u) (by omega)))
  obtain ⟨c, rfl, _⟩ := plainElem_int_inv Try.underlying3 hv
  exact ⟨c, hr⟩
theorem own_head {w : World} {base s : Nat} {e : TypeId} {A : Option Addr} {n c : Nat} {xs : List Value} (h : w.ownsRow base e s (.slice A n c) n xs) (hn : 0 < n) : ∃ g, A = some ⟨g, 0, none⟩ := by
  rcases h.2 with ⟨_, h0⟩ | ⟨g, cap, cur, hv, _⟩
  · omega
  · injection hv with hA _ _
    exact ⟨g, hA⟩
/-- One is taken out of those that wait. -/
theorem MsA.taken {w w' : World} {m : ML} {s : MSt} (h : MsA w m s) (b : But m.S w w') (ws' : List SM) (l' : List Wt) (hm : m.o = none) (hblk : Blk w' m.g 73 (mcs { m with ws := ws' } { s with line := l' }))
    (hrow : w'.ownsRow 0 51 9 (.slice m.A ws'.length m.k) ws'.length (svs ws')) (hsub : ∀ x ∈ ws', x ∈ m.ws) (hl : ws'.map SM.wt = l') (hmp : w'.ownsMap Try.prog 3 (plainElem Try.prog 3) m.gm m.n m.D) : MsA w' { m with ws := ws' } { s with line := l' } := by
  refine ⟨hblk, ⟨hrow, fun x hx => (h.line.own x (hsub x hx)).but b (h.off (h.line.own x (hsub x hx)))⟩, hl, ?_, hmp, h.rests⟩
  have ho := h.out
  show OutA w' m.o s.out s.last
  rw [hm] at ho ⊢
  rcases out_cases s with e | ⟨x, t, e⟩
  · rw [e]
    trivial
  · rw [e] at ho
    exact ho.elim
theorem Blk.drew {w : World} {g : Nat} {t : TypeId} {cs : List Value} (h : Blk w g t cs) : Blk w.drew g t cs := h
/-- What next answers. -/
def RetNext (m : ML) (s : MSt) (w : World) (e : Ending) (w' : World) : Prop :=
  match freeAt s.till s.now s.line with
  | none => e = .returned (.pointer none) ∧ MsA w' m s ∧ Below w.heap.size w w'
  | some (a, x, b) => ∃ (p : Nat) (y : SM) (ws' : List SM), e = .returned (.pointer (some ⟨p, 0, none⟩)) ∧ y.wt = x ∧ Blk w' p 80 (y.vs ++ [.int .i64 0, .int .i64 0]) ∧ y.own w' ∧ w.heap.size ≤ p ∧ MsA w' { m with ws := ws' } { s with line := a ++ b } ∧ But m.S w w'
theorem msNext_empty (m : ML) (s : MSt) (w : World) (h : MsA w m s) (hl : m.ws = []) :
    Calls Try.prog 34 #[.pointer (some ⟨m.g, 0, none⟩)] w (RetNext m s w) := by
  obtain ⟨c0, c1, c2, c3, c4, c5, c6, c7⟩ := h.blk.eight
  have hwl : s.line = [] := by rw [← h.wl, hl]; rfl
  rw [hl] at c5
  have c5' : w.cell? ⟨m.g, 5, none⟩ = some (.slice m.A 0 m.k) := c5
  have H := hide h
  have HL := hide hwl
  clear h c0 c1 c2 c3 c4 c5 c6 c7 hl hwl
  go_enter Try.func34, Try.ntmps34
  go_wp2_with fail
  go_step3
  go_wp2_with fail
  go_step3
  go_wp2_with fail
  refine wp_loop_rounds 1 ?_
  rw [rounds_succ]
  go_wp2
  try rw [Exit.noGoto_ret]
  go_ret
  unfold RetNext
  rw [HL.out]
  exact ⟨rfl, H.out, Below.refl _ _⟩
set_option maxRecDepth 100000 in
set_option maxHeartbeats 4000000 in
theorem msNext (m : ML) (s : MSt) (w : World) (h : MsA w m s) (hx : RestX s m.D) (hm : m.o = none) (hu : ∀ x ∈ s.line, 0 ≤ x.u ∧ x.u ≤ 247) (hl : s.line.length ≤ 1000000) :
    Calls Try.prog 34 #[.pointer (some ⟨m.g, 0, none⟩)] w (RetNext m s w) := by
  by_cases hem : m.ws = []
  · exact msNext_empty m s w h hem
  have hpos : 0 < m.ws.length := List.length_pos_iff.2 hem
  obtain ⟨b, eA⟩ := own_head h.line.row hpos
  obtain ⟨c0, c1, c2, c3, c4, c5, c6, c7⟩ := h.blk.eight
  rw [eA] at c5
  have hgl := h.blk.lt
  have hwl : m.ws.length = s.line.length := by rw [← h.wl, List.length_map]
  have hwn : m.ws.length ≤ 1000000 := by omega
  have HU := hide hu
  have HX := hide hx
  have HM := hide hm
  have H := hide h
  have HL := hide hwl
  have HA := hide eA
  generalize hN : m.ws.length = N at c5 hwn hpos
  have HN := hide hN
  have hmg : ∀ W, Below w.heap.size w W → MsA W m s := fun W hb => h.keep hb
  have HK := hide hmg
  clear h hx hu c0 c1 c2 c3 c4 c6 hwl hl hm eA hN hem hmg
  go_enter Try.func34, Try.ntmps34
  go_wp2_with fail
  go_step3
  go_wp2_with fail
  go_step3
  go_wp2_with fail
  go_loopw [12] (fun x wr => ∃ i : Nat, i ≤ N ∧ x = .int .i64 i ∧ Below w.heap.size w wr ∧ ∀ y ∈ m.ws.take i, has m.D (.int .i64 y.u) = true) (fun x _ => N - (intOf x).toNat)
  case atStart => exact ⟨0, by omega, rfl, Below.refl _ _, by simp⟩
  case round =>
    obtain ⟨i, hi, rfl, hb, hall⟩ := hrel
    have HB := hide hb
    have HALL := hide hall
    clear hall
    by_cases hlt : i < N
    · have q : (i : Int) < (N : Int) := by omega
      have hAr := HK.out wr hb
      have hN := HN.out
      have hiw : m.ws[i]? = some m.ws[i] := List.getElem?_eq_getElem (by omega)
      have hrd := ownS_rd hAr.line.row
      obtain ⟨b', o', eA', hbl, hc⟩ := hrd.2 (by omega)
      rw [HA.out] at eA'
      injection eA' with eA'
      injection eA' with e1 e2 _
      subst e1 e2
      have hcc : ∀ j v, (SM.vs m.ws[i])[j]? = some v → wr.cell? ⟨b, 0 + (i * 9 + j), none⟩ = some v := fun j v hv => hc _ _ ((svs_get m.ws i _ j hiw (by have := (List.getElem?_eq_some_iff.1 hv).1; exact this)).trans hv)
      have hy := hAr.line.own _ (List.getElem_mem (l := m.ws) (n := i) (by omega))
      have hyu := HU.out (SM.wt m.ws[i]) (by rw [← H.out.wl]; exact List.mem_map_of_mem (List.getElem_mem _))
      have HI := hide hiw
      generalize m.ws[i] = y at *
      obtain ⟨tk, u, r, V, k⟩ := y
      have hyu' : 0 ≤ u ∧ u ≤ 247 := hyu
      have d0 : wr.cell? ⟨b, i * 9, none⟩ = some (.int .i64 (tk : Nat)) := by simpa using hcc 0 _ rfl
      have d1 : wr.cell? ⟨b, i * 9 + 1, none⟩ = some (.int .i64 u) := by simpa using hcc 1 _ rfl
      have d2 : wr.cell? ⟨b, i * 9 + 2, none⟩ = some (.int .i64 r.f) := by simpa using hcc 2 _ rfl
      have d3 : wr.cell? ⟨b, i * 9 + 3, none⟩ = some (.int .i64 r.a) := by simpa using hcc 3 _ rfl
      have d4 : wr.cell? ⟨b, i * 9 + 4, none⟩ = some (.int .i64 r.c) := by simpa using hcc 4 _ rfl
      have d5 : wr.cell? ⟨b, i * 9 + 5, none⟩ = some (.slice V r.vs.length k) := by simpa using hcc 5 _ rfl
      have d6 : wr.cell? ⟨b, i * 9 + 6, none⟩ = some (.int .i64 r.t) := by simpa using hcc 6 _ rfl
      have d7 : wr.cell? ⟨b, i * 9 + 7, none⟩ = some (.int .i64 r.an) := by simpa using hcc 7 _ rfl
      have d8 : wr.cell? ⟨b, i * 9 + 8, none⟩ = some (.int .i64 r.o) := by simpa using hcc 8 _ rfl
      have HY := hide hy
      have HAR := hide hAr
      clear hcc hc hrd hAr hy hyu hiw hN hb
      go_wp2_with fail
      generalize hV : wr.alloc _ = U
      obtain ⟨zV, bV⟩ := box1 wr 51 (SM.vs ⟨tk, u, r, V, k⟩) U hV.symm
      clear hV d0 d1 d2 d3 d4 d5 d6 d7 d8
      have hAU := HAR.out.keep bV
      obtain ⟨cv, hlook⟩ := look7 (w := U.drew) hAU.mp u hyu'.1 hyu'.2
      have g7 : U.cell? ⟨m.g, 7, none⟩ = some (.map (some m.gm)) := hAU.blk.cell 7
      have g5 : U.cell? ⟨m.g, 5, none⟩ = some (.slice (some ⟨b, 0, none⟩) N m.k) := by rw [← HA.out, ← HN.out]; exact hAU.blk.cell 5
      have e1 : U.cell? ⟨wr.heap.size, 1, none⟩ = some (.int .i64 u) := zV.cell 1
      have HZ := hide zV
      have HAU := hide hAU
      have HBU := hide (below_on HB.out bV)
      have hsU : wr.heap.size < U.heap.size := zV.lt
      clear zV bV hAU
      cases hh : has m.D (.int .i64 u)
      · rw [hh] at hlook
        refine wp_region_held_drew (S := fun w' => w' = U.drew) (by kernel_rfl) ?_ (fun hHeld => ?_)
        · exact rfl
        refine wpAnyH_take (i := 0) (oi := { dst := some 18, op := _, type := _, pos := _, after := _, guard := _ }) (v := ?v1x1) rfl (by kernel_rfl) (by kernel_rfl) (by kernel_rfl) (fun _ _ _ h => h) (Or.inl ⟨by rfl, ?hy1x1⟩) hHeld ?rest1x1
        case hy1x1 => (intro w hSw; go_simp <;> with_reducible rfl)
        try simp only [Act.put, List.setIfInBounds_toArray, List.set_cons_zero, List.set_cons_succ]
        refine wpAnyH_take (i := 1) (oi := { dst := some 19, op := _, type := _, pos := _, after := _, guard := _ }) (v := ?v1x2) rfl (by kernel_rfl) (by kernel_rfl) (by kernel_rfl) (fun _ _ _ h => h) (Or.inl ⟨by rfl, ?hy1x2⟩) hHeld ?rest1x2
        case hy1x2 => (intro w hSw; go_simp <;> with_reducible rfl)
        try simp only [Act.put, List.setIfInBounds_toArray, List.set_cons_zero, List.set_cons_succ]
        refine wpAnyH_take (i := 2) (oi := { dst := some 20, op := _, type := _, pos := _, after := _, guard := _ }) (v := ?v1x3) rfl (by kernel_rfl) (by kernel_rfl) (by kernel_rfl) (fun _ _ _ h => h) (Or.inl ⟨by rfl, ?hy1x3⟩) hHeld ?rest1x3
        case hy1x3 => (intro w hSw; go_simp <;> with_reducible rfl)
        try simp only [Act.put, List.setIfInBounds_toArray, List.set_cons_zero, List.set_cons_succ]
        refine wpAnyH_take (i := 3) (oi := { dst := some 21, op := _, type := _, pos := _, after := _, guard := _ }) (v := ?v1x4) rfl (by kernel_rfl) (by kernel_rfl) (by kernel_rfl) (fun _ _ _ h => h) (Or.inl ⟨by rfl, ?hy1x4⟩) hHeld ?rest1x4
        case hy1x4 => (intro w hSw; go_simp <;> with_reducible rfl)
        try simp only [Act.put, List.setIfInBounds_toArray, List.set_cons_zero, List.set_cons_succ]
        refine wpAnyH_take (i := 4) (oi := { dst := some 22, op := _, type := _, pos := _, after := _, guard := _ }) (v := ?v1x5) rfl (by kernel_rfl) (by kernel_rfl) (by kernel_rfl) (fun _ _ _ h => h) (Or.inl ⟨by rfl, ?hy1x5⟩) hHeld ?rest1x5
        case hy1x5 => (intro w hSw; go_simp <;> with_reducible rfl)
        try simp only [Act.put, List.setIfInBounds_toArray, List.set_cons_zero, List.set_cons_succ]
        refine wpAnyH_take (i := 5) (oi := { dst := some 23, op := _, type := _, pos := _, after := _, guard := _ }) (v := ?v1x6) rfl (by kernel_rfl) (by kernel_rfl) (by kernel_rfl) (fun _ _ _ h => h) (Or.inl ⟨by rfl, ?hy1x6⟩) hHeld ?rest1x6
        case hy1x6 => (intro w hSw; go_simp <;> with_reducible rfl)
        try simp only [Act.put, List.setIfInBounds_toArray, List.set_cons_zero, List.set_cons_succ]
        refine wpAnyH_take (i := 6) (oi := { dst := some 24, op := _, type := _, pos := _, after := _, guard := _ }) (v := ?v1x7) rfl (by kernel_rfl) (by kernel_rfl) (by kernel_rfl) (fun _ _ _ h => h) (Or.inl ⟨by rfl, ?hy1x7⟩) hHeld ?rest1x7
        case hy1x7 => (intro w hSw; go_simp <;> with_reducible rfl)
        try simp only [Act.put, List.setIfInBounds_toArray, List.set_cons_zero, List.set_cons_succ]
        refine wpAnyH_take (i := 7) (oi := { dst := some 17, op := _, type := _, pos := _, after := _, guard := _ }) (v := ?v1x8) rfl (by kernel_rfl) (by kernel_rfl) (by kernel_rfl) (fun _ _ _ h => h) (Or.inl ⟨by rfl, ?hy1x8⟩) hHeld ?rest1x8
        case hy1x8 => (intro w hSw; go_simp <;> with_reducible rfl)
        try simp only [Act.put, List.setIfInBounds_toArray, List.set_cons_zero, List.set_cons_succ]
        refine wpAnyH_take (i := 8) (oi := { dst := some 25, op := _, type := _, pos := _, after := _, guard := _ }) (v := ?v1x9) rfl (by kernel_rfl) (by kernel_rfl) (by kernel_rfl) (fun _ _ _ h => h) (Or.inl ⟨by rfl, ?hy1x9⟩) hHeld ?rest1x9
        case hy1x9 => (intro w hSw; go_simp <;> with_reducible rfl)
        try simp only [Act.put, List.setIfInBounds_toArray, List.set_cons_zero, List.set_cons_succ]
        refine wpAnyH_take (i := 9) (oi := { dst := some 26, op := _, type := _, pos := _, after := _, guard := _ }) (v := ?v1x10) rfl (by kernel_rfl) (by kernel_rfl) (by kernel_rfl) (fun _ _ _ h => h) (Or.inl ⟨by rfl, ?hy1x10⟩) hHeld ?rest1x10
        case hy1x10 => (intro w hSw; go_simp <;> with_reducible rfl)
        try simp only [Act.put, List.setIfInBounds_toArray, List.set_cons_zero, List.set_cons_succ]
        refine wpAnyH_take (i := 10) (oi := { dst := some 5, op := _, type := _, pos := _, after := _, guard := _ }) (v := ?v1x11) rfl (by kernel_rfl) (by kernel_rfl) (by kernel_rfl) (fun _ _ _ h => h) (Or.inl ⟨by rfl, ?hy1x11⟩) hHeld ?rest1x11
        case hy1x11 => (intro w hSw; go_simp <;> with_reducible rfl)
        try simp only [Act.put, List.setIfInBounds_toArray, List.set_cons_zero, List.set_cons_succ]
        refine wpAnyH_take (i := 11) (oi := { dst := some 6, op := _, type := _, pos := _, after := _, guard := _ }) (v := ?v1x12) rfl (by kernel_rfl) (by kernel_rfl) (by kernel_rfl) (fun _ _ _ h => h) (Or.inl ⟨by rfl, ?hy1x12⟩) hHeld ?rest1x12
        case hy1x12 => (intro w hSw; go_simp <;> with_reducible rfl)
        try simp only [Act.put, List.setIfInBounds_toArray, List.set_cons_zero, List.set_cons_succ]
        refine wpAnyH_done (by kernel_rfl) ?_ _
        clear hlook
        go_wp2_with fail
        have hrow : U.drew.ownsRow 0 51 9 (.slice (some ⟨b, 0, none⟩) N m.k) N (svs m.ws) := by
          have := HAU.out.line.row
          rw [HA.out, HN.out] at this
          exact this
        have hbl' : b < wr.heap.size := ownS_lt HAR.out.line.row b 0 HA.out
        have hbg : b ≠ m.g := (HAU.out.ne2 b 0 HA.out).1
        have hbm : b ≠ m.gm := (HAU.out.ne2 b 0 HA.out).2
        refine (sdel_any b i N m.k _ _ m.ws U.drew hrow hlt hwn rfl (by omega)).mono ?_
        rintro e w2 ⟨rfl, o2, b2⟩
        have zG := HAU.out.blk.drew.but b2 (fun e => hbg e.symm)
        have zP := HZ.out.drew.but b2 (by omega)
        have hmp2 := map_but (w := U.drew) HAU.out.mp b2 (fun e => hbm e.symm)
        have HG := hide zG
        have HP := hide zP
        have HO2 := hide o2
        have HB2 := hide b2
        have HM2 := hide hmp2
        have hs2 := b2.size
        obtain ⟨p0, p1, p2, p3, p4, p5, p6, p7, p8⟩ := Blk.nine zP
        have k5 : w2.cell? ⟨m.g, 5, none⟩ = some (.slice m.A m.ws.length m.k) := zG.cell 5
        have fG := zG.frozen
        have lG := zG.lt
        have lP := zP.lt
        have hpg : m.g < wr.heap.size := HAR.out.blk.lt
        simp only at p0 p1 p2 p3 p4 p5 p6 p7 p8
        clear zG zP hmp2 o2 b2 hrow g7 g5 e1
        go_wp2_with fail
        try rw [Exit.noGoto_ret]
        go_ret
        have hX : But (fun i => i = m.g) w2 (w2.setCell ⟨m.g, 5, none⟩ (.slice (some ⟨b, 0, none⟩) (N - 1) m.k)) := But.setCell w2 _ rfl
        have hGX := HG.out.set 5 (.slice (some ⟨b, 0, none⟩) (N - 1) m.k)
        have hsz : (w2.setCell ⟨m.g, 5, none⟩ (.slice (some ⟨b, 0, none⟩) (N - 1) m.k)).heap.size = w2.heap.size := by simp
        clear p0 p1 p2 p3 p4 p5 p6 p7 p8 k5 fG
        generalize w2.setCell ⟨m.g, 5, none⟩ (.slice (some ⟨b, 0, none⟩) (N - 1) m.k) = X at *
        generalize hY : X.alloc _ = Y
        obtain ⟨zY, bY⟩ := box1 X 80 (SM.vs ⟨tk, u, r, V, k⟩ ++ [Value.int IntKind.i64 (0 : Int), Value.int IntKind.i64 (0 : Int)]) Y hY.symm
        rw [hsz] at zY
        clear hY
        have hN := HN.out
        have hA := HA.out
        have hbw : But m.S w Y := by
          have h1 : But m.S w U.drew := But.ofBelow (below_on HBU.out (Below.refl _ _).drew) _
          have h2 : But m.S w w2 := h1.trans HB2.out (fun i _ e => by subst e; exact Or.inr (Or.inr (Or.inl ⟨0, hA⟩)))
          have h3 : But m.S w X := h2.trans hX (fun i _ e => Or.inl e)
          exact h3.on bY
        have hlen : (m.ws.take i ++ m.ws.drop (i + 1)).length = N - 1 := by
          rw [List.length_append, List.length_take, List.length_drop]
          omega
        have hfree : freeAt s.till s.now s.line = some (s.line.take i, ⟨tk, u, r⟩, s.line.drop (i + 1)) := by
          apply freeAt_at
          · rw [← H.out.wl, List.getElem?_map, HI.out]
            rfl
          · intro z hz
            have hzu := HU.out z (List.mem_of_mem_take hz)
            rw [← H.out.wl, ← List.map_take] at hz
            obtain ⟨y, hy, rfl⟩ := List.mem_map.1 hz
            have := HALL.out y hy
            rw [HX.out y.u hzu.1 hzu.2] at this
            exact of_decide_eq_true this
          · have := HX.out u hyu'.1 hyu'.2
            rw [hh] at this
            have := of_decide_eq_false this.symm
            show s.till u ≤ s.now
            omega
        unfold RetNext
        rw [hfree]
        have hsU2 : w.heap.size ≤ U.heap.size := HBU.out.size
        refine ⟨w2.heap.size, ⟨tk, u, r, V, k⟩, m.ws.take i ++ m.ws.drop (i + 1), rfl, rfl, zY, ?_, ?_, ?_, hbw⟩
        · exact (H.out.line.own ⟨tk, u, r, V, k⟩ (List.mem_of_getElem? HI.out)).but hbw (H.out.off (H.out.line.own ⟨tk, u, r, V, k⟩ (List.mem_of_getElem? HI.out)))
        · have : U.drew.heap.size = U.heap.size := rfl
          omega
        · refine H.out.taken hbw _ _ HM.out ?_ ?_ ?_ ?_ ?_
          · have : mcs { m with ws := m.ws.take i ++ m.ws.drop (i + 1) } { s with line := s.line.take i ++ s.line.drop (i + 1) } = (mcs m s).set 5 (.slice (some ⟨b, 0, none⟩) (N - 1) m.k) := by
              show _ = [_, _, _, _, _, _, _, _]
              unfold mcs
              simp only [hlen, hA]
            rw [this]
            exact hGX.keep bY
          · rw [hlen, hA]
            exact ownS_keep (ownS_but HO2.out hX (fun b' o' e' h' => by injection e' with e'; injection e' with e1 _ _; omega)) bY
          · intro x hx
            rcases List.mem_append.1 hx with hx | hx
            · exact List.mem_of_mem_take hx
            · exact List.mem_of_mem_drop hx
          · rw [List.map_append, List.map_take, List.map_drop, H.out.wl]
          · exact map_but (map_but HM2.out hX (fun e => H.out.ne1 e.symm)) (But.ofBelow bY (fun _ => False)) (fun h => h)
      · rw [hh] at hlook
        refine wp_region_held_drew (S := fun w' => w' = U.drew) (by kernel_rfl) ?_ (fun hHeld => ?_)
        · exact rfl
        refine wpAnyH_take (i := 0) (oi := { dst := some 18, op := _, type := _, pos := _, after := _, guard := _ }) (v := ?v2x1) rfl (by kernel_rfl) (by kernel_rfl) (by kernel_rfl) (fun _ _ _ h => h) (Or.inl ⟨by rfl, ?hy2x1⟩) hHeld ?rest2x1
        case hy2x1 => (intro w hSw; go_simp <;> with_reducible rfl)
        try simp only [Act.put, List.setIfInBounds_toArray, List.set_cons_zero, List.set_cons_succ]
        refine wpAnyH_take (i := 1) (oi := { dst := some 19, op := _, type := _, pos := _, after := _, guard := _ }) (v := ?v2x2) rfl (by kernel_rfl) (by kernel_rfl) (by kernel_rfl) (fun _ _ _ h => h) (Or.inl ⟨by rfl, ?hy2x2⟩) hHeld ?rest2x2
        case hy2x2 => (intro w hSw; go_simp <;> with_reducible rfl)
        try simp only [Act.put, List.setIfInBounds_toArray, List.set_cons_zero, List.set_cons_succ]
        refine wpAnyH_take (i := 2) (oi := { dst := some 20, op := _, type := _, pos := _, after := _, guard := _ }) (v := ?v2x3) rfl (by kernel_rfl) (by kernel_rfl) (by kernel_rfl) (fun _ _ _ h => h) (Or.inl ⟨by rfl, ?hy2x3⟩) hHeld ?rest2x3
        case hy2x3 => (intro w hSw; go_simp <;> with_reducible rfl)
        try simp only [Act.put, List.setIfInBounds_toArray, List.set_cons_zero, List.set_cons_succ]
        refine wpAnyH_take (i := 3) (oi := { dst := some 21, op := _, type := _, pos := _, after := _, guard := _ }) (v := ?v2x4) rfl (by kernel_rfl) (by kernel_rfl) (by kernel_rfl) (fun _ _ _ h => h) (Or.inl ⟨by rfl, ?hy2x4⟩) hHeld ?rest2x4
        case hy2x4 => (intro w hSw; go_simp <;> with_reducible rfl)
        try simp only [Act.put, List.setIfInBounds_toArray, List.set_cons_zero, List.set_cons_succ]
        refine wpAnyH_take (i := 4) (oi := { dst := some 22, op := _, type := _, pos := _, after := _, guard := _ }) (v := ?v2x5) rfl (by kernel_rfl) (by kernel_rfl) (by kernel_rfl) (fun _ _ _ h => h) (Or.inl ⟨by rfl, ?hy2x5⟩) hHeld ?rest2x5
        case hy2x5 => (intro w hSw; go_simp <;> with_reducible rfl)
        try simp only [Act.put, List.setIfInBounds_toArray, List.set_cons_zero, List.set_cons_succ]
        refine wpAnyH_take (i := 5) (oi := { dst := some 23, op := _, type := _, pos := _, after := _, guard := _ }) (v := ?v2x6) rfl (by kernel_rfl) (by kernel_rfl) (by kernel_rfl) (fun _ _ _ h => h) (Or.inl ⟨by rfl, ?hy2x6⟩) hHeld ?rest2x6
        case hy2x6 => (intro w hSw; go_simp <;> with_reducible rfl)
        try simp only [Act.put, List.setIfInBounds_toArray, List.set_cons_zero, List.set_cons_succ]
        refine wpAnyH_take (i := 6) (oi := { dst := some 24, op := _, type := _, pos := _, after := _, guard := _ }) (v := ?v2x7) rfl (by kernel_rfl) (by kernel_rfl) (by kernel_rfl) (fun _ _ _ h => h) (Or.inl ⟨by rfl, ?hy2x7⟩) hHeld ?rest2x7
        case hy2x7 => (intro w hSw; go_simp <;> with_reducible rfl)
        try simp only [Act.put, List.setIfInBounds_toArray, List.set_cons_zero, List.set_cons_succ]
        refine wpAnyH_take (i := 7) (oi := { dst := some 17, op := _, type := _, pos := _, after := _, guard := _ }) (v := ?v2x8) rfl (by kernel_rfl) (by kernel_rfl) (by kernel_rfl) (fun _ _ _ h => h) (Or.inl ⟨by rfl, ?hy2x8⟩) hHeld ?rest2x8
        case hy2x8 => (intro w hSw; go_simp <;> with_reducible rfl)
        try simp only [Act.put, List.setIfInBounds_toArray, List.set_cons_zero, List.set_cons_succ]
        refine wpAnyH_take (i := 8) (oi := { dst := some 25, op := _, type := _, pos := _, after := _, guard := _ }) (v := ?v2x9) rfl (by kernel_rfl) (by kernel_rfl) (by kernel_rfl) (fun _ _ _ h => h) (Or.inl ⟨by rfl, ?hy2x9⟩) hHeld ?rest2x9
        case hy2x9 => (intro w hSw; go_simp <;> with_reducible rfl)
        try simp only [Act.put, List.setIfInBounds_toArray, List.set_cons_zero, List.set_cons_succ]
        refine wpAnyH_take (i := 9) (oi := { dst := some 26, op := _, type := _, pos := _, after := _, guard := _ }) (v := ?v2x10) rfl (by kernel_rfl) (by kernel_rfl) (by kernel_rfl) (fun _ _ _ h => h) (Or.inl ⟨by rfl, ?hy2x10⟩) hHeld ?rest2x10
        case hy2x10 => (intro w hSw; go_simp <;> with_reducible rfl)
        try simp only [Act.put, List.setIfInBounds_toArray, List.set_cons_zero, List.set_cons_succ]
        refine wpAnyH_take (i := 10) (oi := { dst := some 5, op := _, type := _, pos := _, after := _, guard := _ }) (v := ?v2x11) rfl (by kernel_rfl) (by kernel_rfl) (by kernel_rfl) (fun _ _ _ h => h) (Or.inl ⟨by rfl, ?hy2x11⟩) hHeld ?rest2x11
        case hy2x11 => (intro w hSw; go_simp <;> with_reducible rfl)
        try simp only [Act.put, List.setIfInBounds_toArray, List.set_cons_zero, List.set_cons_succ]
        refine wpAnyH_take (i := 11) (oi := { dst := some 6, op := _, type := _, pos := _, after := _, guard := _ }) (v := ?v2x12) rfl (by kernel_rfl) (by kernel_rfl) (by kernel_rfl) (fun _ _ _ h => h) (Or.inl ⟨by rfl, ?hy2x12⟩) hHeld ?rest2x12
        case hy2x12 => (intro w hSw; go_simp <;> with_reducible rfl)
        try simp only [Act.put, List.setIfInBounds_toArray, List.set_cons_zero, List.set_cons_succ]
        refine wpAnyH_done (by kernel_rfl) ?_ _
        clear hlook
        go_wp2_with fail
        go_roundw
        case rel =>
          refine ⟨i + 1, by omega, by go_num, below_on HBU.out (Below.refl _ _).drew, ?_⟩
          intro y hy
          rw [List.take_add_one, HI.out] at hy
          rcases List.mem_append.1 hy with hy | hy
          · exact HALL.out y hy
          · simp at hy
            subst hy
            exact hh
        case measure => simp [intOf]; omega
    · obtain rfl : i = N := by omega
      have q : ¬ (i : Int) < (i : Int) := by omega
      go_wp2
      try rw [Exit.noGoto_ret]
      go_ret
      unfold RetNext
      have hN := HN.out
      have hall := HALL.out
      rw [List.take_of_length_le (by omega)] at hall
      have hf : freeAt s.till s.now s.line = none := by
        apply freeAt_all
        intro z hz
        have hzu := HU.out z hz
        rw [← H.out.wl] at hz
        obtain ⟨y, hy, rfl⟩ := List.mem_map.1 hz
        have := hall y hy
        rw [HX.out y.u hzu.1 hzu.2] at this
        exact of_decide_eq_true this
      rw [hf]
      exact ⟨rfl, HK.out wr HB.out, HB.out⟩
end Go.Proofs.Ytnialjikpoembaa
