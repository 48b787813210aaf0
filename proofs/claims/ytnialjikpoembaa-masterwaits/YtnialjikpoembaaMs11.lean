/-
  What is proved here: what master's Step answers, and what becomes of the master. Condition: numbers as they are in a master that keeps to MOk; now is an int.
-/
import Derived.Test.YtnialjikpoembaaMs10
namespace Go.Proofs.Ytnialjikpoembaa
set_option linter.unusedVariables false
set_option linter.unusedSimpArgs false
open Go.RowKit Go.Maps

theorem ok_lt {s : MSt} {now : Int} (h : tickBad s now = false) : 0 ≤ now ∧ s.now ≤ now := by
  simp only [tickBad, Bool.or_eq_false_iff, decide_eq_false_iff_not] at h
  omega
theorem DRd.but {S : Nat → Prop} {w w' : World} {O : Option Addr} {n : Nat} {ds : List DM} (h : DRd w O n ds) (b : But S w w') (hs : ∀ b o, O = some ⟨b, o, none⟩ → ¬ S b) (hv : ∀ d ∈ ds, Off S d.V) : DRd w' O n ds := by
  rcases h with h | ⟨d, g, rfl, e2, e3, h1, h2⟩
  · exact Or.inl h
  · exact Or.inr ⟨d, g, rfl, e2, e3, h1.but b (hs g 0 e3), Rd.but h2 b (hv d (by simp))⟩
set_option maxRecDepth 100000 in
theorem msStep_none (m : ML) (s : MSt) (now : Int) (w : World) (h : MsA w m s) (hk : MOk s) (hb : tickBad s now = false) (hw : now ≤ 9223372036854775807) (hm : m.n ≤ 1000000) (ho : s.out = none) :
    Calls Try.prog 14 #[.pointer (some ⟨m.g, 0, none⟩), .int .i64 now] w (RetStep m s now (stepR s now) w) := by
  rw [stepR_none hb ho]
  have hmo : m.o = none := by
    have := h.out
    rw [ho] at this
    exact this.none_
  have KT := hide (mOk_tick hk now hb)
  have HWW := hide hw
  have HO := hide (And.intro ho hmo)
  obtain ⟨ST, hST⟩ : ∃ ST : MSt, ST = { s with now := now } := ⟨_, rfl⟩
  have OT : Hid (ST.out = none ∧ ST.now = now ∧ m.o = none) := hide ⟨by rw [hST]; exact ho, by rw [hST], hmo⟩
  rw [← hST] at KT ⊢
  have HST := hide hST
  clear ho hw hST
  obtain ⟨hn0, hn1⟩ := ok_lt hb
  have HR := hide (msReach_ok m s now w h hn1)
  have HK := hide hk
  have HN := hide (And.intro hn0 hn1)
  clear h hb hn0 hn1 hk
  go_enter Try.func14, Try.ntmps14
  go_wp2_with fail
  refine HR.out.mono ?_
  rintro e w1 ⟨rfl, a1, b1⟩
  have A1 := hide a1
  have B1 := hide b1
  obtain ⟨c0, c1, c2, c3, c4, c5, c6, c7⟩ := a1.blk.eight
  clear a1 b1 c2 c3 c4 c5 c7
  rw [hmo] at c6
  simp only [optP] at c6
  rw [← HST.out] at A1
  have AT : Hid (MsA w1.drew m ST) := hide (A1.out.keep (Below.refl _ _).drew)
  have BT : Hid (But m.S w w1.drew) := hide ((B1.out.wide (S' := m.S) (fun i e => Or.inl e)).on (Below.refl _ _).drew)
  have DT : Hid (DRd w1.drew none 0 [] ∧ List.map DM.dn [] = []) := hide ⟨Or.inl ⟨rfl, rfl⟩, rfl⟩
  have NT : Hid (m.n ≤ m.n + 1) := hide (Nat.le_succ _)
  have SS : Hid (∀ i, m.S i → m.S i ∨ w.heap.size ≤ i) := hide (fun i h => Or.inl h)
  have PT : Hid (∀ b o, (none : Option Addr) = some ⟨b, o, none⟩ → ¬ m.S b ∧ w.heap.size ≤ b) := hide (fun _ _ e => by cases e)
  have PL : Hid (∀ b o, (none : Option Addr) = some ⟨b, o, none⟩ → b < w1.drew.heap.size) := hide (fun _ _ e => by cases e)
  have VT : Hid (∀ {S : Nat → Prop}, ∀ d ∈ ([] : List DM), Off S d.V) := hide (fun d hd => by cases hd)
  clear hmo hm A1 B1
  go_wp2_with fail
  refine wp_region_held_drew (S := fun w' => w' = w1.drew) (by kernel_rfl) ?_ (fun hHeld => ?_)
  · exact rfl
  refine wpAnyH_take (i := 0) (oi := { dst := some 15, op := _, type := _, pos := _, after := _, guard := _ }) (v := ?v1x1) rfl (by kernel_rfl) (by kernel_rfl) (by kernel_rfl) (fun _ _ _ h => h) (Or.inl ⟨by rfl, ?hy1x1⟩) hHeld ?rest1x1
  case hy1x1 => (intro w hSw; go_simp <;> with_reducible rfl)
  try simp only [Act.put, List.setIfInBounds_toArray, List.set_cons_zero, List.set_cons_succ]
  refine wpAnyH_take (i := 1) (oi := { dst := some 16, op := _, type := _, pos := _, after := _, guard := _ }) (v := ?v1x2) rfl (by kernel_rfl) (by kernel_rfl) (by kernel_rfl) (fun _ _ _ h => h) (Or.inl ⟨by rfl, ?hy1x2⟩) hHeld ?rest1x2
  case hy1x2 => (intro w hSw; go_simp <;> with_reducible rfl)
  try simp only [Act.put, List.setIfInBounds_toArray, List.set_cons_zero, List.set_cons_succ]
  refine wpAnyH_take (i := 2) (oi := { dst := some 17, op := _, type := _, pos := _, after := _, guard := _ }) (v := ?v1x3) rfl (by kernel_rfl) (by kernel_rfl) (by kernel_rfl) (fun _ _ _ h => h) (Or.inl ⟨by rfl, ?hy1x3⟩) hHeld ?rest1x3
  case hy1x3 => (intro w hSw; go_simp <;> with_reducible rfl)
  try simp only [Act.put, List.setIfInBounds_toArray, List.set_cons_zero, List.set_cons_succ]
  refine wpAnyH_take (i := 3) (oi := { dst := some 18, op := _, type := _, pos := _, after := _, guard := _ }) (v := ?v1x4) rfl (by kernel_rfl) (by kernel_rfl) (by kernel_rfl) (fun _ _ _ h => h) (Or.inl ⟨by rfl, ?hy1x4⟩) hHeld ?rest1x4
  case hy1x4 => (intro w hSw; go_simp <;> with_reducible rfl)
  try simp only [Act.put, List.setIfInBounds_toArray, List.set_cons_zero, List.set_cons_succ]
  refine wpAnyH_take (i := 4) (oi := { dst := some 19, op := _, type := _, pos := _, after := _, guard := _ }) (v := ?v1x5) rfl (by kernel_rfl) (by kernel_rfl) (by kernel_rfl) (fun _ _ _ h => h) (Or.inl ⟨by rfl, ?hy1x5⟩) hHeld ?rest1x5
  case hy1x5 => (intro w hSw; go_simp <;> with_reducible rfl)
  try simp only [Act.put, List.setIfInBounds_toArray, List.set_cons_zero, List.set_cons_succ]
  refine wpAnyH_take (i := 5) (oi := { dst := some 20, op := _, type := _, pos := _, after := _, guard := _ }) (v := ?v1x6) rfl (by kernel_rfl) (by kernel_rfl) (by kernel_rfl) (fun _ _ _ h => h) (Or.inl ⟨by rfl, ?hy1x6⟩) hHeld ?rest1x6
  case hy1x6 => (intro w hSw; go_simp <;> with_reducible rfl)
  try simp only [Act.put, List.setIfInBounds_toArray, List.set_cons_zero, List.set_cons_succ]
  refine wpAnyH_take (i := 6) (oi := { dst := some 21, op := _, type := _, pos := _, after := _, guard := _ }) (v := undef) rfl (by kernel_rfl) (by kernel_rfl) (by kernel_rfl) (fun _ _ _ h => h) (Or.inr ⟨by rfl, rfl⟩) hHeld ?_
  try simp only [Act.put, List.setIfInBounds_toArray, List.set_cons_zero, List.set_cons_succ]
  refine wpAnyH_take (i := 7) (oi := { dst := some 22, op := _, type := _, pos := _, after := _, guard := _ }) (v := undef) rfl (by kernel_rfl) (by kernel_rfl) (by kernel_rfl) (fun _ _ _ h => h) (Or.inr ⟨by rfl, rfl⟩) hHeld ?_
  try simp only [Act.put, List.setIfInBounds_toArray, List.set_cons_zero, List.set_cons_succ]
  refine wpAnyH_take (i := 8) (oi := { dst := some 23, op := _, type := _, pos := _, after := _, guard := _ }) (v := undef) rfl (by kernel_rfl) (by kernel_rfl) (by kernel_rfl) (fun _ _ _ h => h) (Or.inr ⟨by rfl, rfl⟩) hHeld ?_
  try simp only [Act.put, List.setIfInBounds_toArray, List.set_cons_zero, List.set_cons_succ]
  refine wpAnyH_take (i := 9) (oi := { dst := some 24, op := _, type := _, pos := _, after := _, guard := _ }) (v := undef) rfl (by kernel_rfl) (by kernel_rfl) (by kernel_rfl) (fun _ _ _ h => h) (Or.inr ⟨by rfl, rfl⟩) hHeld ?_
  try simp only [Act.put, List.setIfInBounds_toArray, List.set_cons_zero, List.set_cons_succ]
  refine wpAnyH_take (i := 10) (oi := { dst := some 25, op := _, type := _, pos := _, after := _, guard := _ }) (v := undef) rfl (by kernel_rfl) (by kernel_rfl) (by kernel_rfl) (fun _ _ _ h => h) (Or.inr ⟨by rfl, rfl⟩) hHeld ?_
  try simp only [Act.put, List.setIfInBounds_toArray, List.set_cons_zero, List.set_cons_succ]
  refine wpAnyH_take (i := 11) (oi := { dst := some 26, op := _, type := _, pos := _, after := _, guard := _ }) (v := undef) rfl (by kernel_rfl) (by kernel_rfl) (by kernel_rfl) (fun _ _ _ h => h) (Or.inr ⟨by rfl, rfl⟩) hHeld ?_
  try simp only [Act.put, List.setIfInBounds_toArray, List.set_cons_zero, List.set_cons_succ]
  refine wpAnyH_take (i := 12) (oi := { dst := some 27, op := _, type := _, pos := _, after := _, guard := _ }) (v := undef) rfl (by kernel_rfl) (by kernel_rfl) (by kernel_rfl) (fun _ _ _ h => h) (Or.inr ⟨by rfl, rfl⟩) hHeld ?_
  try simp only [Act.put, List.setIfInBounds_toArray, List.set_cons_zero, List.set_cons_succ]
  refine wpAnyH_take (i := 13) (oi := { dst := some 28, op := _, type := _, pos := _, after := _, guard := _ }) (v := undef) rfl (by kernel_rfl) (by kernel_rfl) (by kernel_rfl) (fun _ _ _ h => h) (Or.inr ⟨by rfl, rfl⟩) hHeld ?_
  try simp only [Act.put, List.setIfInBounds_toArray, List.set_cons_zero, List.set_cons_succ]
  refine wpAnyH_take (i := 14) (oi := { dst := some 29, op := _, type := _, pos := _, after := _, guard := _ }) (v := undef) rfl (by kernel_rfl) (by kernel_rfl) (by kernel_rfl) (fun _ _ _ h => h) (Or.inr ⟨by rfl, rfl⟩) hHeld ?_
  try simp only [Act.put, List.setIfInBounds_toArray, List.set_cons_zero, List.set_cons_succ]
  refine wpAnyH_take (i := 15) (oi := { dst := some 30, op := _, type := _, pos := _, after := _, guard := _ }) (v := undef) rfl (by kernel_rfl) (by kernel_rfl) (by kernel_rfl) (fun _ _ _ h => h) (Or.inr ⟨by rfl, rfl⟩) hHeld ?_
  try simp only [Act.put, List.setIfInBounds_toArray, List.set_cons_zero, List.set_cons_succ]
  refine wpAnyH_take (i := 16) (oi := { dst := some 31, op := _, type := _, pos := _, after := _, guard := _ }) (v := undef) rfl (by kernel_rfl) (by kernel_rfl) (by kernel_rfl) (fun _ _ _ h => h) (Or.inr ⟨by rfl, rfl⟩) hHeld ?_
  try simp only [Act.put, List.setIfInBounds_toArray, List.set_cons_zero, List.set_cons_succ]
  refine wpAnyH_take (i := 17) (oi := { dst := some 32, op := _, type := _, pos := _, after := _, guard := _ }) (v := ?v1x18) rfl (by kernel_rfl) (by kernel_rfl) (by kernel_rfl) (fun _ _ _ h => h) (Or.inl ⟨by rfl, ?hy1x18⟩) hHeld ?rest1x18
  case hy1x18 => (intro w hSw; go_simp <;> with_reducible rfl)
  try simp only [Act.put, List.setIfInBounds_toArray, List.set_cons_zero, List.set_cons_succ]
  refine wpAnyH_done (by kernel_rfl) ?_ _
  go_wp2_with fail
  clear c0 c1 c6
  refine (msEndRests m ST now w1.drew AT.out OT.out.2.1 HWW.out).mono ?_
  rintro e wE ⟨rfl, aE, rX, bE⟩
  have AE := hide aE
  have RX := hide rX
  have BE := hide bE
  clear aE rX bE
  go_wp2_with fail
  refine (msNext { m with D := overD m ST } ST wE AE.out RX.out OT.out.2.2 (fun x hx => ⟨(KT.out.may x hx).2.1, (KT.out.may x hx).2.2.1⟩) (by have := KT.out.len; omega)).mono ?_
  rintro e wN hN
  unfold RetNext at hN
  cases hf' : freeAt ST.till ST.now ST.line with
  | none =>
    rw [hf'] at hN
    have hf := hf'
    rw [OT.out.2.1] at hf
    obtain ⟨rfl, aN, bN⟩ := hN
    have g6 : wN.cell? ⟨m.g, 6, none⟩ = some (.pointer (optP (ML.o m))) := aN.blk.cell 6
    have fz : ∀ i, wN.frozen? ⟨m.g, i, none⟩ = false := aN.blk.frozen
    have AN := hide aN
    have BN := hide bN
    clear aN bN
    go_wp2
    go_ret3
    have hX : But (fun i => i = m.g) wN (wN.setCell ⟨m.g, 6, none⟩ (.pointer none)) := But.setCell wN _ rfl
    have hAX : MsA (wN.setCell ⟨m.g, 6, none⟩ (.pointer none)) { m with D := overD m ST } ST := by
      refine AN.out.turnG hX ST ?_ rfl rfl rfl AN.out.rests
      have := AN.out.blk.set 6 (.pointer none)
      have ho := OT.out.2.2
      have e : mcs { m with D := overD m ST } ST = (mcs { m with D := overD m ST } ST).set 6 (.pointer none) := by
        show [_, _, _, _, _, _, _, _] = [_, _, _, _, _, _, _, _]
        simp only [List.cons.injEq, and_true, true_and]
        first | rfl | (rw [ho]; rfl)
      rw [e]
      exact this
    have hbb : But m.S w (wN.setCell ⟨m.g, 6, none⟩ (.pointer none)) := by
      have h1 : But m.S w wE := BT.out.trans BE.out (fun i _ e => Or.inr (Or.inl e))
      exact (h1.on BN.out).trans hX (fun i _ e => Or.inl e)
    have hs : sendS ST now = ([], ST) := by unfold sendS; rw [hf]
    rw [hs]
    have htail : But (fun i => i = m.g ∨ i = m.gm) w1.drew (wN.setCell ⟨m.g, 6, none⟩ (.pointer none)) := ((BE.out.wide (S' := fun i => i = m.g ∨ i = m.gm) (fun i e => Or.inr e)).on BN.out).trans hX (fun i _ e => Or.inl e)
    refine ⟨none, none, 0, 0, [], [], { m with D := overD m ST }, rfl, rfl, Or.inl ⟨rfl, rfl⟩, DT.out.2, ?_, hAX, rfl, NT.out, hbb, ?_, (fun _ _ e => by cases e), ?_⟩
    · exact DT.out.1.but htail (fun b o e => by
        have := (PT.out b o e).1
        rintro (e | e)
        · exact this (Or.inl e)
        · exact this (Or.inr (Or.inl e))) VT.out
    · intro i hi
      exact SS.out i hi
    · intro b o e
      exact PT.out b o e
  | some q =>
    obtain ⟨qa, qx, qb⟩ := q
    rw [hf'] at hN
    have hf := hf'
    rw [OT.out.2.1] at hf
    obtain ⟨p, y, ws', rfl, ey, zP, oP, hp, aN, bN⟩ := hN
    have g6 : wN.cell? ⟨m.g, 6, none⟩ = some (.pointer (optP (ML.o m))) := aN.blk.cell 6
    have fz : ∀ i, wN.frozen? ⟨m.g, i, none⟩ = false := aN.blk.frozen
    have hpg : p ≠ m.g := zP.ne aN.blk (by decide)
    have AN := hide aN
    have BN := hide bN
    have ZP := hide zP
    have OP := hide oP
    have EY := hide ey
    have HP := hide hp
    clear aN bN zP oP ey hp
    go_wp2_with fail
    have hX : But (fun i => i = m.g) wN (wN.setCell ⟨m.g, 6, none⟩ (.pointer (some ⟨p, 0, none⟩))) := But.setCell wN _ rfl
    have hGX : Blk (wN.setCell ⟨m.g, 6, none⟩ (.pointer (some ⟨p, 0, none⟩))) m.g 73 (mcs { m with D := overD m ST, ws := ws', o := some (p, y) } { ST with line := qa ++ qb }) := AN.out.blk.set 6 (.pointer (some ⟨p, 0, none⟩))
    have hZX := ZP.out.but hX hpg
    have hOX := OP.out.but hX (fun b' o' e' h' => AN.out.off OP.out b' o' e' (Or.inl h'))
    clear g6 fz
    generalize wN.setCell ⟨m.g, 6, none⟩ (.pointer (some ⟨p, 0, none⟩)) = X at *
    have HX := hide hX
    have HGX := hide hGX
    have HZX := hide hZX
    have hmay : y.r.may = true := by
      have hx := (freeAt_some hf).1
      have := (KT.out.may qx (by rw [hx]; simp)).1
      rw [← EY.out] at this
      exact this
    refine (msSend p y 0 0 now X hZX hOX (by omega) (by omega) (by have := may_vs hmay; omega)).mono ?_
    rintro e wS ⟨O, z, rfl, zO, oO, ez, zP2, bS, hO⟩
    have ZO := hide zO
    have OO := hide oO
    have EZ := hide ez
    have ZP2 := hide zP2
    have BS := hide bS
    have HO := hide hO
    clear zO oO ez zP2 bS hO hX hGX hZX hOX
    go_wp2
    go_ret3
    have hs : sendS ST now = ([qx], { ST with line := qa ++ qb, out := some (qx, 1), last := now }) := by unfold sendS; rw [hf]
    rw [hs]
    have hbX : But (fun i => i = m.g ∨ i = p) wN wS := (HX.out.wide (S' := fun i => i = m.g ∨ i = p) (fun i e => Or.inl e)).trans BS.out (fun i _ e => Or.inr e)
    have hszE : w1.drew.heap.size ≤ wE.heap.size := BE.out.size
    have hszN : wE.heap.size ≤ wN.heap.size := BN.out.size
    have hszX : wN.heap.size ≤ X.heap.size := HX.out.size
    have hszS : w.heap.size ≤ w1.drew.heap.size := BT.out.size
    have hpl : wE.heap.size ≤ p := HP.out
    have hltE : ∀ i, ML.S m i → i < w1.drew.heap.size := AT.out.lt
    have hpS : ¬ ML.S m p := fun hc => by have := hltE p hc; omega
    have hpS' : ¬ ML.S { m with D := overD m ST, ws := ws' } p := hpS
    have hGS : Blk wS m.g 73 (mcs { m with D := overD m ST, ws := ws', o := some (p, y) } { ST with line := qa ++ qb }) := HGX.out.but BS.out (fun e => hpg e.symm)
    have hyS : y.own wS := OP.out.but hbX (fun b' o' e' h' => by
      rcases h' with rfl | rfl
      · exact AN.out.off OP.out _ o' e' (Or.inl rfl)
      · exact own_ne OP.out ZP.out (by decide) e' rfl)
    have hAS := MsA.outed (y := y) AN.out hbX hpS' ZP.out 1 now hGS ZP2.out hyS
    rw [EY.out] at hAS
    have hsub : ∀ i, ML.S { m with D := overD m ST, ws := ws', o := some (p, y) } i → ML.S m i ∨ i = p := by
      rintro i (h | h | h | ⟨_, h⟩)
      · exact Or.inl (Or.inl h)
      · exact Or.inl (Or.inr (Or.inl h))
      · exact Or.inl (Or.inr (Or.inr (Or.inl h)))
      · injection h with h
        injection h with h _
        exact Or.inr h.symm
    have hall : But m.S w wS := by
      have h1 : But m.S w wE := BT.out.trans BE.out (fun i _ e => Or.inr (Or.inl e))
      have h2 : But m.S w wN := h1.trans BN.out (fun i hi e => (SS.out i e).elim id (fun h => by omega))
      exact h2.trans hbX (fun i hi e => e.elim Or.inl (fun e => by omega))
    refine ⟨some ⟨O, 0, none⟩, none, 1, 0, [z], [], { m with D := overD m ST, ws := ws', o := some (p, y) }, rfl, by show [z.wt] = [qx]; rw [EZ.out, EY.out], Or.inr ⟨z, O, rfl, rfl, rfl, ZO.out, OO.out⟩, DT.out.2, ?_, hAS, rfl, NT.out, hall, ?_, ?_, ?_⟩
    · have h0 := BE.out.wide (S' := fun i => ML.S m i ∨ i = p) (fun i e => Or.inl (Or.inr (Or.inl e)))
      have h1 := h0.trans BN.out (fun i _ e => Or.inl e)
      have h2 := h1.trans hbX (fun i _ e => e.elim (fun e => Or.inl (Or.inl e)) Or.inr)
      exact DT.out.1.but h2 (fun b o e hc => by
        rcases hc with hc | hc
        · exact (PT.out b o e).1 hc
        · subst hc
          have := PL.out b o e
          omega) VT.out
    · intro i hi
      rcases hsub i hi with hi | hi
      · exact SS.out i hi
      · exact Or.inr (by omega)
    · intro b o e
      injection e with e
      injection e with e _ _
      have hoo := HO.out
      refine ⟨fun hc => ?_, by omega⟩
      rcases hsub b hc with hc | hc
      · have := hltE b hc
        omega
      · have := ZP.out.lt
        omega
    · intro b o e
      refine ⟨fun hc => ?_, (PT.out b o e).2⟩
      rcases hsub b hc with hc | hc
      · exact (PT.out b o e).1 hc
      · have := PL.out b o e
        omega
end Go.Proofs.Ytnialjikpoembaa
