/-
  What is proved here: what a master is when a request is out, or out once more; how master's Step answers ahead of any request that is out. No condition of its own. ALSO: what master's Step answers, and what becomes of the master. Condition: numbers as they are in a master that keeps to MOk; now is an int. ALSO: what master's Step answers while a request is out, and what becomes of the master. Condition: numbers as they are in a master that keeps to MOk; now is an int.
-/
import Derived.Test.YtfpfijggmfeejaaMs6
namespace Go.Proofs.Ytfpfijggmfeejaa
set_option linter.unusedVariables false
set_option linter.unusedSimpArgs false
open Go.RowKit Go.Maps

theorem may_vs {r : Rq} (h : r.may = true) : r.vs.length ≤ 2000 := by
  obtain ⟨f, a, c, vs, t, an, o⟩ := r
  simp only [Rq.may, mayB] at h
  show vs.length ≤ 2000
  repeat' (split at h)
  all_goals first | (simp [readsB, oneB, manyB, masksB, swapsB, liesB] at h; first | omega | (obtain ⟨h1, _⟩ := h; omega) | (simp [h])) | cases h
/-- What was out is sent once more. -/
theorem MsA.againS {w w' : World} {m : ML} {s : MSt} (h : MsA w m s) {x : Wt} {t last : Int} {b : Nat} {y : SM} (hb : But (fun i => i = b) w w') (eo : m.o = some (b, y)) (ey : y.wt = x) (t' last' : Int) (hB : Blk w' b 76 (y.vs ++ [.int .i64 t', .int .i64 last'])) :
    MsA w' m { s with out := some (x, t'), last := last' } := by
  obtain ⟨n1, n2, n3⟩ := h.ne3 b y eo
  have hS : ∀ i, i = b → m.S i := fun i e => Or.inr (Or.inr (Or.inr ⟨y, by rw [e]; exact eo⟩))
  obtain ⟨_, _, ho⟩ := h.out.lay eo
  refine ⟨h.blk.but hb (fun e => n1 e.symm), h.line.but hb (fun b' o e h' => n3 b' o e h') (fun z hz b' o e h' => h.off (h.line.own z hz) b' o e (hS _ h')), h.wl, ?_, map_but h.mp hb (fun e => n2 e.symm), h.rests⟩
  show OutA w' m.o (some (x, t')) last'
  rw [eo]
  exact ⟨ey, hB, ho.but hb (fun b' o e h' => h.off ho b' o e (hS _ h'))⟩
/-- One is out. -/
theorem MsA.outed {w w' : World} {m : ML} {s : MSt} (h : MsA w m s) {p : Nat} {y : SM} {cs : List Value} (hb : But (fun i => i = m.g ∨ i = p) w w') (hp : ¬ m.S p) (hPw : Blk w p 76 cs) (t last : Int) (hblk : Blk w' m.g 68 (mcs { m with o := some (p, y) } s))
    (hP : Blk w' p 76 (y.vs ++ [.int .i64 t, .int .i64 last])) (hy : y.own w') : MsA w' { m with o := some (p, y) } { s with out := some (y.wt, t), last := last } := by
  refine ⟨hblk, h.line.but hb ?_ ?_, h.wl, ⟨rfl, hP, hy⟩, map_but h.mp hb ?_, h.rests⟩
  · rintro b' o e (rfl | rfl)
    · exact (h.ne2 _ o e).1 rfl
    · exact hp (Or.inr (Or.inr (Or.inl ⟨o, e⟩)))
  · rintro z hz b' o e (rfl | rfl)
    · exact h.off (h.line.own z hz) _ o e (Or.inl rfl)
    · exact own_ne (h.line.own z hz) hPw (by decide) e rfl
  · rintro (e | e)
    · exact h.ne1 e.symm
    · exact hp (Or.inr (Or.inl e.symm))

/-- What Step answers. -/
structure RetStep (m : ML) (s : MSt) (now : Int) (R : List Wt × List Dn × Int × MSt) (w : World) (e : Ending) (w' : World) : Prop where
  ret : ∃ (O P : Option Addr) (k l : Nat) (rs : List SM) (ds : List DM) (m' : ML), e = .returned (.tuple #[.slice O rs.length k, .slice P ds.length l, .int .i64 R.2.2.1]) ∧ rs.map SM.wt = R.1 ∧ SRd1 w' O rs.length rs ∧ ds.map DM.dn = R.2.1 ∧ DRd w' P ds.length ds ∧
    MsA w' m' R.2.2.2 ∧ m'.g = m.g ∧ m'.n ≤ m.n + 1 ∧ But m.S w w' ∧ (∀ i, m'.S i → m.S i ∨ w.heap.size ≤ i) ∧ (∀ b o, O = some ⟨b, o, none⟩ → ¬ m'.S b ∧ w.heap.size ≤ b) ∧ (∀ b o, P = some ⟨b, o, none⟩ → ¬ m'.S b ∧ w.heap.size ≤ b)

theorem msStep_bad (m : ML) (s : MSt) (now : Int) (w : World) (h : MsA w m s) (hk : MOk s) (hb : tickBad s now = true) :
    Calls Try.prog 11 #[.pointer (some ⟨m.g, 0, none⟩), .int .i64 now] w (RetStep m s now (stepR s now) w) := by
  rw [stepR_bad hb]
  have hlt : now < s.now := by
    have := hk.n0
    simp only [tickBad, Bool.or_eq_true, decide_eq_true_eq] at hb
    omega
  have HR := hide (msReach_bad m s now w h hlt)
  have H := hide h
  clear h hk hb hlt
  go_enter Try.func11, Try.ntmps11
  go_wp2_with fail
  refine HR.out.mono ?_
  rintro e w1 ⟨rfl, rfl⟩
  go_wp2
  go_ret3
  exact ⟨none, none, 0, 0, [], [], m, rfl, rfl, Or.inl ⟨rfl, rfl⟩, rfl, Or.inl ⟨rfl, rfl⟩, H.out, rfl, Nat.le_succ _, But.refl _ _, fun i h => Or.inl h, (fun _ _ e => by cases e), (fun _ _ e => by cases e)⟩

end Go.Proofs.Ytfpfijggmfeejaa

namespace Go.Proofs.Ytfpfijggmfeejaa
set_option linter.unusedVariables false
set_option linter.unusedSimpArgs false
open Go.RowKit Go.Maps

theorem ok_lt {s : MSt} {now : Int} (h : tickBad s now = false) : 0 ≤ now ∧ s.now ≤ now := by
  simp only [tickBad, Bool.or_eq_false_iff, decide_eq_false_iff_not] at h
  omega
theorem DRd.but {S : Nat → Prop} {w w' : World} {O : Option Addr} {n : Nat} {ds : List DM} (h : DRd w O n ds) (b : But S w w') (hs : ∀ b o, O = some ⟨b, o, none⟩ → ¬ S b) (hv : ∀ d ∈ ds, Off S d.V) : DRd w' O n ds := by
  rcases h with h | ⟨d, g, rfl, e2, e3, h1, h2⟩
  · exact Or.inl h
  · exact Or.inr ⟨d, g, rfl, e2, e3, h1.but b (hs g 0 e3), Rd.but h2 b (hv d (by simp))⟩
set_option maxRecDepth 100000 in
theorem msStep_none (m : ML) (s : MSt) (now : Int) (w : World) (h : MsA w m s) (hk : MOk s) (hb : tickBad s now = false) (hw : now ≤ 9223372036854775807) (hm : m.n ≤ 1000000) (ho : s.out = none) :
    Calls Try.prog 11 #[.pointer (some ⟨m.g, 0, none⟩), .int .i64 now] w (RetStep m s now (stepR s now) w) := by
  rw [stepR_none hb ho]
  have hmo : m.o = none := by
    have := h.out
    rw [ho] at this
    exact this.none_
  have KT := hide (mOk_tick hk now hb)
  have HWW := hide hw
  have HO := hide (And.intro ho hmo)
  obtain ⟨ST, hST⟩ : ∃ ST : MSt, ST = { s with now := now } := ⟨_, rfl⟩
  have OT : Hid (ST.out = none ∧ ST.now = now ∧ m.o = none) := hide ⟨by rw [hST]; exact ho, by rw [hST], hmo⟩
  rw [← hST] at KT ⊢
  have HST := hide hST
  clear ho hw hST
  obtain ⟨hn0, hn1⟩ := ok_lt hb
  have HR := hide (msReach_ok m s now w h hn1)
  have HK := hide hk
  have HN := hide (And.intro hn0 hn1)
  clear h hb hn0 hn1 hk
  go_enter Try.func11, Try.ntmps11
  go_wp2_with fail
  refine HR.out.mono ?_
  rintro e w1 ⟨rfl, a1, b1⟩
  have A1 := hide a1
  have B1 := hide b1
  obtain ⟨c0, c1, c2, c3, c4, c5, c6, c7⟩ := a1.blk.eight
  clear a1 b1 c2 c3 c4 c5 c7
  rw [hmo] at c6
  simp only [optP] at c6
  rw [← HST.out] at A1
  have AT : Hid (MsA w1.drew m ST) := hide (A1.out.keep (Below.refl _ _).drew)
  have BT : Hid (But m.S w w1.drew) := hide ((B1.out.wide (S' := m.S) (fun i e => Or.inl e)).on (Below.refl _ _).drew)
  have DT : Hid (DRd w1.drew none 0 [] ∧ List.map DM.dn [] = []) := hide ⟨Or.inl ⟨rfl, rfl⟩, rfl⟩
  have NT : Hid (m.n ≤ m.n + 1) := hide (Nat.le_succ _)
  have SS : Hid (∀ i, m.S i → m.S i ∨ w.heap.size ≤ i) := hide (fun i h => Or.inl h)
  have PT : Hid (∀ b o, (none : Option Addr) = some ⟨b, o, none⟩ → ¬ m.S b ∧ w.heap.size ≤ b) := hide (fun _ _ e => by cases e)
  have PL : Hid (∀ b o, (none : Option Addr) = some ⟨b, o, none⟩ → b < w1.drew.heap.size) := hide (fun _ _ e => by cases e)
  have VT : Hid (∀ {S : Nat → Prop}, ∀ d ∈ ([] : List DM), Off S d.V) := hide (fun d hd => by cases hd)
  clear hmo hm A1 B1
  go_wp2_with fail
  refine wp_region_held_drew (S := fun w' => w' = w1.drew) (by kernel_rfl) ?_ (fun hHeld => ?_)
  · exact rfl
  refine wpAnyH_take (i := 0) (oi := { dst := some 15, op := _, type := _, pos := _, after := _, guard := _ }) (v := ?v1x1) rfl (by kernel_rfl) (by kernel_rfl) (by kernel_rfl) (fun _ _ _ h => h) (Or.inl ⟨by rfl, ?hy1x1⟩) hHeld ?rest1x1
  case hy1x1 => (intro w hSw; go_simp <;> with_reducible rfl)
  try simp only [Act.put, List.setIfInBounds_toArray, List.set_cons_zero, List.set_cons_succ]
  refine wpAnyH_take (i := 1) (oi := { dst := some 16, op := _, type := _, pos := _, after := _, guard := _ }) (v := ?v1x2) rfl (by kernel_rfl) (by kernel_rfl) (by kernel_rfl) (fun _ _ _ h => h) (Or.inl ⟨by rfl, ?hy1x2⟩) hHeld ?rest1x2
  case hy1x2 => (intro w hSw; go_simp <;> with_reducible rfl)
  try simp only [Act.put, List.setIfInBounds_toArray, List.set_cons_zero, List.set_cons_succ]
  refine wpAnyH_take (i := 2) (oi := { dst := some 17, op := _, type := _, pos := _, after := _, guard := _ }) (v := ?v1x3) rfl (by kernel_rfl) (by kernel_rfl) (by kernel_rfl) (fun _ _ _ h => h) (Or.inl ⟨by rfl, ?hy1x3⟩) hHeld ?rest1x3
  case hy1x3 => (intro w hSw; go_simp <;> with_reducible rfl)
  try simp only [Act.put, List.setIfInBounds_toArray, List.set_cons_zero, List.set_cons_succ]
  refine wpAnyH_take (i := 3) (oi := { dst := some 18, op := _, type := _, pos := _, after := _, guard := _ }) (v := ?v1x4) rfl (by kernel_rfl) (by kernel_rfl) (by kernel_rfl) (fun _ _ _ h => h) (Or.inl ⟨by rfl, ?hy1x4⟩) hHeld ?rest1x4
  case hy1x4 => (intro w hSw; go_simp <;> with_reducible rfl)
  try simp only [Act.put, List.setIfInBounds_toArray, List.set_cons_zero, List.set_cons_succ]
  refine wpAnyH_take (i := 4) (oi := { dst := some 19, op := _, type := _, pos := _, after := _, guard := _ }) (v := ?v1x5) rfl (by kernel_rfl) (by kernel_rfl) (by kernel_rfl) (fun _ _ _ h => h) (Or.inl ⟨by rfl, ?hy1x5⟩) hHeld ?rest1x5
  case hy1x5 => (intro w hSw; go_simp <;> with_reducible rfl)
  try simp only [Act.put, List.setIfInBounds_toArray, List.set_cons_zero, List.set_cons_succ]
  refine wpAnyH_take (i := 5) (oi := { dst := some 20, op := _, type := _, pos := _, after := _, guard := _ }) (v := ?v1x6) rfl (by kernel_rfl) (by kernel_rfl) (by kernel_rfl) (fun _ _ _ h => h) (Or.inl ⟨by rfl, ?hy1x6⟩) hHeld ?rest1x6
  case hy1x6 => (intro w hSw; go_simp <;> with_reducible rfl)
  try simp only [Act.put, List.setIfInBounds_toArray, List.set_cons_zero, List.set_cons_succ]
  refine wpAnyH_take (i := 6) (oi := { dst := some 21, op := _, type := _, pos := _, after := _, guard := _ }) (v := undef) rfl (by kernel_rfl) (by kernel_rfl) (by kernel_rfl) (fun _ _ _ h => h) (Or.inr ⟨by rfl, rfl⟩) hHeld ?_
  try simp only [Act.put, List.setIfInBounds_toArray, List.set_cons_zero, List.set_cons_succ]
  refine wpAnyH_take (i := 7) (oi := { dst := some 22, op := _, type := _, pos := _, after := _, guard := _ }) (v := undef) rfl (by kernel_rfl) (by kernel_rfl) (by kernel_rfl) (fun _ _ _ h => h) (Or.inr ⟨by rfl, rfl⟩) hHeld ?_
  try simp only [Act.put, List.setIfInBounds_toArray, List.set_cons_zero, List.set_cons_succ]
  refine wpAnyH_take (i := 8) (oi := { dst := some 23, op := _, type := _, pos := _, after := _, guard := _ }) (v := undef) rfl (by kernel_rfl) (by kernel_rfl) (by kernel_rfl) (fun _ _ _ h => h) (Or.inr ⟨by rfl, rfl⟩) hHeld ?_
  try simp only [Act.put, List.setIfInBounds_toArray, List.set_cons_zero, List.set_cons_succ]
  refine wpAnyH_take (i := 9) (oi := { dst := some 24, op := _, type := _, pos := _, after := _, guard := _ }) (v := undef) rfl (by kernel_rfl) (by kernel_rfl) (by kernel_rfl) (fun _ _ _ h => h) (Or.inr ⟨by rfl, rfl⟩) hHeld ?_
  try simp only [Act.put, List.setIfInBounds_toArray, List.set_cons_zero, List.set_cons_succ]
  refine wpAnyH_take (i := 10) (oi := { dst := some 25, op := _, type := _, pos := _, after := _, guard := _ }) (v := undef) rfl (by kernel_rfl) (by kernel_rfl) (by kernel_rfl) (fun _ _ _ h => h) (Or.inr ⟨by rfl, rfl⟩) hHeld ?_
  try simp only [Act.put, List.setIfInBounds_toArray, List.set_cons_zero, List.set_cons_succ]
  refine wpAnyH_take (i := 11) (oi := { dst := some 26, op := _, type := _, pos := _, after := _, guard := _ }) (v := undef) rfl (by kernel_rfl) (by kernel_rfl) (by kernel_rfl) (fun _ _ _ h => h) (Or.inr ⟨by rfl, rfl⟩) hHeld ?_
  try simp only [Act.put, List.setIfInBounds_toArray, List.set_cons_zero, List.set_cons_succ]
  refine wpAnyH_take (i := 12) (oi := { dst := some 27, op := _, type := _, pos := _, after := _, guard := _ }) (v := undef) rfl (by kernel_rfl) (by kernel_rfl) (by kernel_rfl) (fun _ _ _ h => h) (Or.inr ⟨by rfl, rfl⟩) hHeld ?_
  try simp only [Act.put, List.setIfInBounds_toArray, List.set_cons_zero, List.set_cons_succ]
  refine wpAnyH_take (i := 13) (oi := { dst := some 28, op := _, type := _, pos := _, after := _, guard := _ }) (v := undef) rfl (by kernel_rfl) (by kernel_rfl) (by kernel_rfl) (fun _ _ _ h => h) (Or.inr ⟨by rfl, rfl⟩) hHeld ?_
  try simp only [Act.put, List.setIfInBounds_toArray, List.set_cons_zero, List.set_cons_succ]
  refine wpAnyH_take (i := 14) (oi := { dst := some 29, op := _, type := _, pos := _, after := _, guard := _ }) (v := undef) rfl (by kernel_rfl) (by kernel_rfl) (by kernel_rfl) (fun _ _ _ h => h) (Or.inr ⟨by rfl, rfl⟩) hHeld ?_
  try simp only [Act.put, List.setIfInBounds_toArray, List.set_cons_zero, List.set_cons_succ]
  refine wpAnyH_take (i := 15) (oi := { dst := some 30, op := _, type := _, pos := _, after := _, guard := _ }) (v := undef) rfl (by kernel_rfl) (by kernel_rfl) (by kernel_rfl) (fun _ _ _ h => h) (Or.inr ⟨by rfl, rfl⟩) hHeld ?_
  try simp only [Act.put, List.setIfInBounds_toArray, List.set_cons_zero, List.set_cons_succ]
  refine wpAnyH_take (i := 16) (oi := { dst := some 31, op := _, type := _, pos := _, after := _, guard := _ }) (v := undef) rfl (by kernel_rfl) (by kernel_rfl) (by kernel_rfl) (fun _ _ _ h => h) (Or.inr ⟨by rfl, rfl⟩) hHeld ?_
  try simp only [Act.put, List.setIfInBounds_toArray, List.set_cons_zero, List.set_cons_succ]
  refine wpAnyH_take (i := 17) (oi := { dst := some 32, op := _, type := _, pos := _, after := _, guard := _ }) (v := ?v1x18) rfl (by kernel_rfl) (by kernel_rfl) (by kernel_rfl) (fun _ _ _ h => h) (Or.inl ⟨by rfl, ?hy1x18⟩) hHeld ?rest1x18
  case hy1x18 => (intro w hSw; go_simp <;> with_reducible rfl)
  try simp only [Act.put, List.setIfInBounds_toArray, List.set_cons_zero, List.set_cons_succ]
  refine wpAnyH_done (by kernel_rfl) ?_ _
  go_wp2_with fail
  clear c0 c1 c6
  refine (msEndRests m ST now w1.drew AT.out OT.out.2.1 HWW.out).mono ?_
  rintro e wE ⟨rfl, aE, rX, bE⟩
  have AE := hide aE
  have RX := hide rX
  have BE := hide bE
  clear aE rX bE
  go_wp2_with fail
  refine (msNext { m with D := overD m ST } ST wE AE.out RX.out OT.out.2.2 (fun x hx => ⟨(KT.out.may x hx).2.1, (KT.out.may x hx).2.2.1⟩) (by have := KT.out.len; omega)).mono ?_
  rintro e wN hN
  unfold RetNext at hN
  cases hf' : freeAt ST.till ST.now ST.line with
  | none =>
    rw [hf'] at hN
    have hf := hf'
    rw [OT.out.2.1] at hf
    obtain ⟨rfl, aN, bN⟩ := hN
    have g6 : wN.cell? ⟨m.g, 6, none⟩ = some (.pointer (optP (ML.o m))) := aN.blk.cell 6
    have fz : ∀ i, wN.frozen? ⟨m.g, i, none⟩ = false := aN.blk.frozen
    have AN := hide aN
    have BN := hide bN
    clear aN bN
    go_wp2
    go_ret3
    have hX : But (fun i => i = m.g) wN (wN.setCell ⟨m.g, 6, none⟩ (.pointer none)) := But.setCell wN _ rfl
    have hAX : MsA (wN.setCell ⟨m.g, 6, none⟩ (.pointer none)) { m with D := overD m ST } ST := by
      refine AN.out.turnG hX ST ?_ rfl rfl rfl AN.out.rests
      have := AN.out.blk.set 6 (.pointer none)
      have ho := OT.out.2.2
      have e : mcs { m with D := overD m ST } ST = (mcs { m with D := overD m ST } ST).set 6 (.pointer none) := by
        show [_, _, _, _, _, _, _, _] = [_, _, _, _, _, _, _, _]
        simp only [List.cons.injEq, and_true, true_and]
        first | rfl | (rw [ho]; rfl)
      rw [e]
      exact this
    have hbb : But m.S w (wN.setCell ⟨m.g, 6, none⟩ (.pointer none)) := by
      have h1 : But m.S w wE := BT.out.trans BE.out (fun i _ e => Or.inr (Or.inl e))
      exact (h1.on BN.out).trans hX (fun i _ e => Or.inl e)
    have hs : sendS ST now = ([], ST) := by unfold sendS; rw [hf]
    rw [hs]
    have htail : But (fun i => i = m.g ∨ i = m.gm) w1.drew (wN.setCell ⟨m.g, 6, none⟩ (.pointer none)) := ((BE.out.wide (S' := fun i => i = m.g ∨ i = m.gm) (fun i e => Or.inr e)).on BN.out).trans hX (fun i _ e => Or.inl e)
    refine ⟨none, none, 0, 0, [], [], { m with D := overD m ST }, rfl, rfl, Or.inl ⟨rfl, rfl⟩, DT.out.2, ?_, hAX, rfl, NT.out, hbb, ?_, (fun _ _ e => by cases e), ?_⟩
    · exact DT.out.1.but htail (fun b o e => by
        have := (PT.out b o e).1
        rintro (e | e)
        · exact this (Or.inl e)
        · exact this (Or.inr (Or.inl e))) VT.out
    · intro i hi
      exact SS.out i hi
    · intro b o e
      exact PT.out b o e
  | some q =>
    obtain ⟨qa, qx, qb⟩ := q
    rw [hf'] at hN
    have hf := hf'
    rw [OT.out.2.1] at hf
    obtain ⟨p, y, ws', rfl, ey, zP, oP, hp, aN, bN⟩ := hN
    have g6 : wN.cell? ⟨m.g, 6, none⟩ = some (.pointer (optP (ML.o m))) := aN.blk.cell 6
    have fz : ∀ i, wN.frozen? ⟨m.g, i, none⟩ = false := aN.blk.frozen
    have hpg : p ≠ m.g := zP.ne aN.blk (by decide)
    have AN := hide aN
    have BN := hide bN
    have ZP := hide zP
    have OP := hide oP
    have EY := hide ey
    have HP := hide hp
    clear aN bN zP oP ey hp
    go_wp2_with fail
    have hX : But (fun i => i = m.g) wN (wN.setCell ⟨m.g, 6, none⟩ (.pointer (some ⟨p, 0, none⟩))) := But.setCell wN _ rfl
    have hGX : Blk (wN.setCell ⟨m.g, 6, none⟩ (.pointer (some ⟨p, 0, none⟩))) m.g 68 (mcs { m with D := overD m ST, ws := ws', o := some (p, y) } { ST with line := qa ++ qb }) := AN.out.blk.set 6 (.pointer (some ⟨p, 0, none⟩))
    have hZX := ZP.out.but hX hpg
    have hOX := OP.out.but hX (fun b' o' e' h' => AN.out.off OP.out b' o' e' (Or.inl h'))
    clear g6 fz
    generalize wN.setCell ⟨m.g, 6, none⟩ (.pointer (some ⟨p, 0, none⟩)) = X at *
    have HX := hide hX
    have HGX := hide hGX
    have HZX := hide hZX
    have hmay : y.r.may = true := by
      have hx := (freeAt_some hf).1
      have := (KT.out.may qx (by rw [hx]; simp)).1
      rw [← EY.out] at this
      exact this
    refine (msSend p y 0 0 now X hZX hOX (by omega) (by omega) (by have := may_vs hmay; omega)).mono ?_
    rintro e wS ⟨O, z, rfl, zO, oO, ez, zP2, bS, hO⟩
    have ZO := hide zO
    have OO := hide oO
    have EZ := hide ez
    have ZP2 := hide zP2
    have BS := hide bS
    have HO := hide hO
    clear zO oO ez zP2 bS hO hX hGX hZX hOX
    go_wp2
    go_ret3
    have hs : sendS ST now = ([qx], { ST with line := qa ++ qb, out := some (qx, 1), last := now }) := by unfold sendS; rw [hf]
    rw [hs]
    have hbX : But (fun i => i = m.g ∨ i = p) wN wS := (HX.out.wide (S' := fun i => i = m.g ∨ i = p) (fun i e => Or.inl e)).trans BS.out (fun i _ e => Or.inr e)
    have hszE : w1.drew.heap.size ≤ wE.heap.size := BE.out.size
    have hszN : wE.heap.size ≤ wN.heap.size := BN.out.size
    have hszX : wN.heap.size ≤ X.heap.size := HX.out.size
    have hszS : w.heap.size ≤ w1.drew.heap.size := BT.out.size
    have hpl : wE.heap.size ≤ p := HP.out
    have hltE : ∀ i, ML.S m i → i < w1.drew.heap.size := AT.out.lt
    have hpS : ¬ ML.S m p := fun hc => by have := hltE p hc; omega
    have hpS' : ¬ ML.S { m with D := overD m ST, ws := ws' } p := hpS
    have hGS : Blk wS m.g 68 (mcs { m with D := overD m ST, ws := ws', o := some (p, y) } { ST with line := qa ++ qb }) := HGX.out.but BS.out (fun e => hpg e.symm)
    have hyS : y.own wS := OP.out.but hbX (fun b' o' e' h' => by
      rcases h' with rfl | rfl
      · exact AN.out.off OP.out _ o' e' (Or.inl rfl)
      · exact own_ne OP.out ZP.out (by decide) e' rfl)
    have hAS := MsA.outed (y := y) AN.out hbX hpS' ZP.out 1 now hGS ZP2.out hyS
    rw [EY.out] at hAS
    have hsub : ∀ i, ML.S { m with D := overD m ST, ws := ws', o := some (p, y) } i → ML.S m i ∨ i = p := by
      rintro i (h | h | h | ⟨_, h⟩)
      · exact Or.inl (Or.inl h)
      · exact Or.inl (Or.inr (Or.inl h))
      · exact Or.inl (Or.inr (Or.inr (Or.inl h)))
      · injection h with h
        injection h with h _
        exact Or.inr h.symm
    have hall : But m.S w wS := by
      have h1 : But m.S w wE := BT.out.trans BE.out (fun i _ e => Or.inr (Or.inl e))
      have h2 : But m.S w wN := h1.trans BN.out (fun i hi e => (SS.out i e).elim id (fun h => by omega))
      exact h2.trans hbX (fun i hi e => e.elim Or.inl (fun e => by omega))
    refine ⟨some ⟨O, 0, none⟩, none, 1, 0, [z], [], { m with D := overD m ST, ws := ws', o := some (p, y) }, rfl, by show [z.wt] = [qx]; rw [EZ.out, EY.out], Or.inr ⟨z, O, rfl, rfl, rfl, ZO.out, OO.out⟩, DT.out.2, ?_, hAS, rfl, NT.out, hall, ?_, ?_, ?_⟩
    · have h0 := BE.out.wide (S' := fun i => ML.S m i ∨ i = p) (fun i e => Or.inl (Or.inr (Or.inl e)))
      have h1 := h0.trans BN.out (fun i _ e => Or.inl e)
      have h2 := h1.trans hbX (fun i _ e => e.elim (fun e => Or.inl (Or.inl e)) Or.inr)
      exact DT.out.1.but h2 (fun b o e hc => by
        rcases hc with hc | hc
        · exact (PT.out b o e).1 hc
        · subst hc
          have := PL.out b o e
          omega) VT.out
    · intro i hi
      rcases hsub i hi with hi | hi
      · exact SS.out i hi
      · exact Or.inr (by omega)
    · intro b o e
      injection e with e
      injection e with e _ _
      have hoo := HO.out
      refine ⟨fun hc => ?_, by omega⟩
      rcases hsub b hc with hc | hc
      · have := hltE b hc
        omega
      · have := ZP.out.lt
        omega
    · intro b o e
      refine ⟨fun hc => ?_, (PT.out b o e).2⟩
      rcases hsub b hc with hc | hc
      · exact (PT.out b o e).1 hc
      · have := PL.out b o e
        omega
end Go.Proofs.Ytfpfijggmfeejaa

namespace Go.Proofs.Ytfpfijggmfeejaa
set_option linter.unusedVariables false
set_option linter.unusedSimpArgs false
open Go.RowKit Go.Maps

set_option maxRecDepth 100000 in
theorem msStep_wait (m : ML) (s : MSt) (now : Int) (x : Wt) (t : Int) (w : World) (h : MsA w m s) (hk : MOk s) (hb : tickBad s now = false) (hw : now ≤ 9223372036854775807) (ho : s.out = some (x, t)) (hd : now - s.last < s.wait) :
    Calls Try.prog 11 #[.pointer (some ⟨m.g, 0, none⟩), .int .i64 now] w (RetStep m s now (stepR s now) w) := by
  rw [stepR_wait hb ho hd]
  have hO := h.out
  rw [ho] at hO
  obtain ⟨b, y, eo, ey, hB, hyo⟩ := hO.some_
  clear hO
  have HQ := hide (hk.omay x t ho)
  have HLA := hide (And.intro hk.l0 hk.l1)
  have HWW := hide hw
  have EO := hide eo
  have EY := hide ey
  have HO := hide ho
  have hbl := hB.lt
  have hbg : b ≠ m.g := (h.ne3 b y eo).1
  clear ey ho hw hB hyo
  obtain ⟨hn0, hn1⟩ := ok_lt hb
  have HR := hide (msReach_ok m s now w h hn1)
  have HK := hide hk
  have HN := hide (And.intro hn0 hn1)
  clear h hb hn0 hn1 hk
  go_enter Try.func11, Try.ntmps11
  go_wp2_with fail
  refine HR.out.mono ?_
  rintro e w1 ⟨rfl, a1, b1⟩
  have A1 := hide a1
  have B1 := hide b1
  obtain ⟨c0, c1, c2, c3, c4, c5, c6, c7⟩ := a1.blk.eight
  clear a1 b1 c2 c3 c4 c5 c7
  have q : decide (s.wait ≤ now - s.last) = false := decide_eq_false (by omega)
  rw [eo] at c6
  simp only [optP] at c6
  have hO1 := A1.out.out
  rw [HO.out] at hO1
  obtain ⟨b', y', eo', ey', hB1, hy1⟩ := hO1.some_
  rw [eo] at eo'
  injection eo' with eo'
  injection eo' with e1 e2
  subst e1 e2
  have HB1 := hide hB1
  have HY1 := hide hy1
  have hsil := msSilence b y t s.last now w1.drew hB1 HLA.out.1 (by have := HLA.out.2; have := HN.out.2; omega) HWW.out
  have HSIL := hide hsil
  have c9 : w1.cell? ⟨b, 9, none⟩ = some (.int .i64 t) := hB1.cell 9
  clear hO1 hB1 hy1 ey' hsil eo
  go_wp2_with fail
  refine wp_region_held_drew (S := fun w' => w' = w1.drew) (by kernel_rfl) ?_ (fun hHeld => ?_)
  · exact rfl
  refine wpAnyH_take (i := 0) (oi := { dst := some 15, op := _, type := _, pos := _, after := _, guard := _ }) (v := ?v2x1) rfl (by kernel_rfl) (by kernel_rfl) (by kernel_rfl) (fun _ _ _ h => h) (Or.inl ⟨by rfl, ?hy2x1⟩) hHeld ?rest2x1
  case hy2x1 => (intro w hSw; go_simp <;> with_reducible rfl)
  try simp only [Act.put, List.setIfInBounds_toArray, List.set_cons_zero, List.set_cons_succ]
  refine wpAnyH_take (i := 1) (oi := { dst := some 16, op := _, type := _, pos := _, after := _, guard := _ }) (v := ?v2x2) rfl (by kernel_rfl) (by kernel_rfl) (by kernel_rfl) (fun _ _ _ h => h) (Or.inl ⟨by rfl, ?hy2x2⟩) hHeld ?rest2x2
  case hy2x2 => (intro w hSw; go_simp <;> with_reducible rfl)
  try simp only [Act.put, List.setIfInBounds_toArray, List.set_cons_zero, List.set_cons_succ]
  refine wpAnyH_take (i := 2) (oi := { dst := some 17, op := _, type := _, pos := _, after := _, guard := _ }) (v := ?v2x3) rfl (by kernel_rfl) (by kernel_rfl) (by kernel_rfl) (fun _ _ _ h => h) (Or.inl ⟨by rfl, ?hy2x3⟩) hHeld ?rest2x3
  case hy2x3 => (intro w hSw; go_simp <;> with_reducible rfl)
  try simp only [Act.put, List.setIfInBounds_toArray, List.set_cons_zero, List.set_cons_succ]
  refine wpAnyH_take (i := 3) (oi := { dst := some 18, op := _, type := _, pos := _, after := _, guard := _ }) (v := ?v2x4) rfl (by kernel_rfl) (by kernel_rfl) (by kernel_rfl) (fun _ _ _ h => h) (Or.inl ⟨by rfl, ?hy2x4⟩) hHeld ?rest2x4
  case hy2x4 => (intro w hSw; go_simp <;> with_reducible rfl)
  try simp only [Act.put, List.setIfInBounds_toArray, List.set_cons_zero, List.set_cons_succ]
  refine wpAnyH_take (i := 4) (oi := { dst := some 19, op := _, type := _, pos := _, after := _, guard := _ }) (v := ?v2x5) rfl (by kernel_rfl) (by kernel_rfl) (by kernel_rfl) (fun _ _ _ h => h) (Or.inl ⟨by rfl, ?hy2x5⟩) hHeld ?rest2x5
  case hy2x5 => (intro w hSw; go_simp <;> with_reducible rfl)
  try simp only [Act.put, List.setIfInBounds_toArray, List.set_cons_zero, List.set_cons_succ]
  refine wpAnyH_take (i := 5) (oi := { dst := some 20, op := _, type := _, pos := _, after := _, guard := _ }) (v := ?v2x6) rfl (by kernel_rfl) (by kernel_rfl) (by kernel_rfl) (fun _ _ _ h => h) (Or.inl ⟨by rfl, ?hy2x6⟩) hHeld ?rest2x6
  case hy2x6 => (intro w hSw; go_simp <;> with_reducible rfl)
  try simp only [Act.put, List.setIfInBounds_toArray, List.set_cons_zero, List.set_cons_succ]
  refine wpAnyH_take (i := 6) (oi := { dst := some 21, op := _, type := _, pos := _, after := _, guard := _ }) (v := ?v2x7) rfl (by kernel_rfl) (by kernel_rfl) (by kernel_rfl) (fun _ _ _ h => h) (Or.inl ⟨by rfl, ?hy2x7⟩) hHeld ?rest2x7
  case hy2x7 => (intro w hSw; go_simp <;> with_reducible rfl)
  try simp only [Act.put, List.setIfInBounds_toArray, List.set_cons_zero, List.set_cons_succ]
  refine wpAnyH_take (i := 7) (oi := { dst := some 22, op := _, type := _, pos := _, after := _, guard := _ }) (v := ?v2x8) rfl (by kernel_rfl) (by kernel_rfl) (by kernel_rfl) (fun _ _ _ h => h) (Or.inl ⟨by rfl, ?hy2x8⟩) hHeld ?rest2x8
  case hy2x8 => (intro w hSw; go_simp <;> with_reducible rfl)
  try simp only [Act.put, List.setIfInBounds_toArray, List.set_cons_zero, List.set_cons_succ]
  refine wpAnyH_take (i := 8) (oi := { dst := some 23, op := _, type := _, pos := _, after := _, guard := _ }) (v := ?v2x9) rfl (by kernel_rfl) (by kernel_rfl) (by kernel_rfl) (fun _ _ _ h => h) (Or.inl ⟨by rfl, ?hy2x9⟩) hHeld ?rest2x9
  case hy2x9 => (intro w hSw; go_simp <;> with_reducible rfl)
  try simp only [Act.put, List.setIfInBounds_toArray, List.set_cons_zero, List.set_cons_succ]
  refine wpAnyH_take (i := 9) (oi := { dst := some 24, op := _, type := _, pos := _, after := _, guard := _ }) (v := ?v2x10) rfl (by kernel_rfl) (by kernel_rfl) (by kernel_rfl) (fun _ _ _ h => h) (Or.inl ⟨by rfl, ?hy2x10⟩) hHeld ?rest2x10
  case hy2x10 => (intro w hSw; go_simp <;> with_reducible rfl)
  try simp only [Act.put, List.setIfInBounds_toArray, List.set_cons_zero, List.set_cons_succ]
  refine wpAnyH_take (i := 10) (oi := { dst := some 25, op := _, type := _, pos := _, after := _, guard := _ }) (v := ?v2x11) rfl (by kernel_rfl) (by kernel_rfl) (by kernel_rfl) (fun _ _ _ h => h) (Or.inl ⟨by rfl, ?hy2x11⟩) hHeld ?rest2x11
  case hy2x11 => (intro w hSw; go_simp <;> with_reducible rfl)
  try simp only [Act.put, List.setIfInBounds_toArray, List.set_cons_zero, List.set_cons_succ]
  refine wpAnyH_take (i := 12) (oi := { dst := some 27, op := _, type := _, pos := _, after := _, guard := _ }) (v := ?v2x12) rfl (by kernel_rfl) (by kernel_rfl) (by kernel_rfl) (fun _ _ _ h => h) (Or.inl ⟨by rfl, ?hy2x12⟩) hHeld ?rest2x12
  case hy2x12 => (intro w hSw; go_simp <;> with_reducible rfl)
  try simp only [Act.put, List.setIfInBounds_toArray, List.set_cons_zero, List.set_cons_succ]
  refine wpAnyH_take (i := 13) (oi := { dst := some 28, op := _, type := _, pos := _, after := _, guard := _ }) (v := ?v2x13) rfl (by kernel_rfl) (by kernel_rfl) (by kernel_rfl) (fun _ _ _ h => h) (Or.inl ⟨by rfl, ?hy2x13⟩) hHeld ?rest2x13
  case hy2x13 => (intro w hSw; go_simp <;> with_reducible rfl)
  try simp only [Act.put, List.setIfInBounds_toArray, List.set_cons_zero, List.set_cons_succ]
  refine wpAnyH_take (i := 14) (oi := { dst := some 29, op := _, type := _, pos := _, after := _, guard := _ }) (v := ?v2x14) rfl (by kernel_rfl) (by kernel_rfl) (by kernel_rfl) (fun _ _ _ h => h) (Or.inl ⟨by rfl, ?hy2x14⟩) hHeld ?rest2x14
  case hy2x14 => (intro w hSw; go_simp <;> with_reducible rfl)
  try simp only [Act.put, List.setIfInBounds_toArray, List.set_cons_zero, List.set_cons_succ]
  refine wpAnyH_take (i := 15) (oi := { dst := some 30, op := _, type := _, pos := _, after := _, guard := _ }) (v := ?v2x15) rfl (by kernel_rfl) (by kernel_rfl) (by kernel_rfl) (fun _ _ _ h => h) (Or.inl ⟨by rfl, ?hy2x15⟩) hHeld ?rest2x15
  case hy2x15 => (intro w hSw; go_simp <;> with_reducible rfl)
  try simp only [Act.put, List.setIfInBounds_toArray, List.set_cons_zero, List.set_cons_succ]
  refine wpAnyH_ready (rs := [11]) (by kernel_rfl) (by simp) (AllReadyH.cons (o := { dst := some 26, op := _, type := _, pos := _, after := _, guard := _ }) rfl (fun K hK => ?_) AllReadyH.nil)
  go_simp
  refine HSIL.out.mono ?_
  rintro e w2 ⟨rfl, rfl⟩
  go_wp2_with fail
  refine hK.out _ _ ?_ (fun hHeld => ?_)
  · exact rfl
  clear hK K
  try simp only [Act.put, List.setIfInBounds_toArray, List.set_cons_zero, List.set_cons_succ]
  refine wpAnyH_take (i := 16) (oi := { dst := some 31, op := _, type := _, pos := _, after := _, guard := _ }) (v := ?v2x17) rfl (by kernel_rfl) (by kernel_rfl) (by kernel_rfl) (fun _ _ _ h => h) (Or.inl ⟨by rfl, ?hy2x17⟩) hHeld ?rest2x17
  case hy2x17 => (intro w hSw; go_simp <;> with_reducible rfl)
  try simp only [Act.put, List.setIfInBounds_toArray, List.set_cons_zero, List.set_cons_succ]
  refine wpAnyH_take (i := 17) (oi := { dst := some 32, op := _, type := _, pos := _, after := _, guard := _ }) (v := ?v2x18) rfl (by kernel_rfl) (by kernel_rfl) (by kernel_rfl) (fun _ _ _ h => h) (Or.inl ⟨by rfl, ?hy2x18⟩) hHeld ?rest2x18
  case hy2x18 => (intro w hSw; go_simp <;> with_reducible rfl)
  try simp only [Act.put, List.setIfInBounds_toArray, List.set_cons_zero, List.set_cons_succ]
  refine wpAnyH_done (by kernel_rfl) ?_ _
  go_wp2_with fail
  go_ret3
  have hbb : But m.S w w1.drew := (B1.out.wide (S' := m.S) (fun i e => Or.inl e)).on (Below.refl _ _).drew
  exact ⟨none, none, 0, 0, [], [], m, rfl, rfl, Or.inl ⟨rfl, rfl⟩, rfl, Or.inl ⟨rfl, rfl⟩, A1.out.keep (Below.refl _ _).drew, rfl, Nat.le_succ _, hbb, fun i h => Or.inl h, (fun _ _ e => by cases e), (fun _ _ e => by cases e)⟩

/-- Where a master lies behind giveUp. -/
def lateM (m : ML) (x : Wt) (now : Int) : ML := { m with o := none, n := m.n + 1, D := lateD m.D x.u now }
theorem lateM_S {m : ML} {x : Wt} {now : Int} {i : Nat} (h : (lateM m x now).S i) : m.S i := by
  rcases h with h | h | h | ⟨y, e⟩
  · exact Or.inl h
  · exact Or.inr (Or.inl h)
  · exact Or.inr (Or.inr (Or.inl h))
  · cases e
set_option maxRecDepth 100000 in
theorem msStep_again (m : ML) (s : MSt) (now : Int) (x : Wt) (t : Int) (w : World) (h : MsA w m s) (hk : MOk s) (hb : tickBad s now = false) (hw : now ≤ 9223372036854775807) (ho : s.out = some (x, t)) (hd : ¬ now - s.last < s.wait) (ht : t < s.again + 1) :
    Calls Try.prog 11 #[.pointer (some ⟨m.g, 0, none⟩), .int .i64 now] w (RetStep m s now (stepR s now) w) := by
  rw [stepR_again hb ho hd ht]
  have hO := h.out
  rw [ho] at hO
  obtain ⟨b, y, eo, ey, hB, hyo⟩ := hO.some_
  clear hO
  have HQ := hide (hk.omay x t ho)
  have HLA := hide (And.intro hk.l0 hk.l1)
  have HWW := hide hw
  have EO := hide eo
  have EY := hide ey
  have HO := hide ho
  have hbl := hB.lt
  have hbg : b ≠ m.g := (h.ne3 b y eo).1
  clear ey ho hw hB hyo
  obtain ⟨hn0, hn1⟩ := ok_lt hb
  have HR := hide (msReach_ok m s now w h hn1)
  have HK := hide hk
  have HN := hide (And.intro hn0 hn1)
  clear h hb hn0 hn1 hk
  go_enter Try.func11, Try.ntmps11
  go_wp2_with fail
  refine HR.out.mono ?_
  rintro e w1 ⟨rfl, a1, b1⟩
  have A1 := hide a1
  have B1 := hide b1
  obtain ⟨c0, c1, c2, c3, c4, c5, c6, c7⟩ := a1.blk.eight
  clear a1 b1 c2 c3 c4 c5 c7
  have q : decide (s.wait ≤ now - s.last) = true := decide_eq_true (by omega)
  have q2 : decide (t ≤ s.again) = true := decide_eq_true (by omega)
  clear hd ht
  rw [eo] at c6
  simp only [optP] at c6
  have hO1 := A1.out.out
  rw [HO.out] at hO1
  obtain ⟨b', y', eo', ey', hB1, hy1⟩ := hO1.some_
  rw [eo] at eo'
  injection eo' with eo'
  injection eo' with e1 e2
  subst e1 e2
  have HB1 := hide hB1
  have HY1 := hide hy1
  have hsil := msSilence b y t s.last now w1.drew hB1 HLA.out.1 (by have := HLA.out.2; have := HN.out.2; omega) HWW.out
  have HSIL := hide hsil
  have c9 : w1.cell? ⟨b, 9, none⟩ = some (.int .i64 t) := hB1.cell 9
  clear hO1 hB1 hy1 ey' hsil eo
  go_wp2_with fail
  refine wp_region_held_drew (S := fun w' => w' = w1.drew) (by kernel_rfl) ?_ (fun hHeld => ?_)
  · exact rfl
  refine wpAnyH_take (i := 0) (oi := { dst := some 15, op := _, type := _, pos := _, after := _, guard := _ }) (v := ?v3x1) rfl (by kernel_rfl) (by kernel_rfl) (by kernel_rfl) (fun _ _ _ h => h) (Or.inl ⟨by rfl, ?hy3x1⟩) hHeld ?rest3x1
  case hy3x1 => (intro w hSw; go_simp <;> with_reducible rfl)
  try simp only [Act.put, List.setIfInBounds_toArray, List.set_cons_zero, List.set_cons_succ]
  refine wpAnyH_take (i := 1) (oi := { dst := some 16, op := _, type := _, pos := _, after := _, guard := _ }) (v := ?v3x2) rfl (by kernel_rfl) (by kernel_rfl) (by kernel_rfl) (fun _ _ _ h => h) (Or.inl ⟨by rfl, ?hy3x2⟩) hHeld ?rest3x2
  case hy3x2 => (intro w hSw; go_simp <;> with_reducible rfl)
  try simp only [Act.put, List.setIfInBounds_toArray, List.set_cons_zero, List.set_cons_succ]
  refine wpAnyH_take (i := 2) (oi := { dst := some 17, op := _, type := _, pos := _, after := _, guard := _ }) (v := ?v3x3) rfl (by kernel_rfl) (by kernel_rfl) (by kernel_rfl) (fun _ _ _ h => h) (Or.inl ⟨by rfl, ?hy3x3⟩) hHeld ?rest3x3
  case hy3x3 => (intro w hSw; go_simp <;> with_reducible rfl)
  try simp only [Act.put, List.setIfInBounds_toArray, List.set_cons_zero, List.set_cons_succ]
  refine wpAnyH_take (i := 3) (oi := { dst := some 18, op := _, type := _, pos := _, after := _, guard := _ }) (v := ?v3x4) rfl (by kernel_rfl) (by kernel_rfl) (by kernel_rfl) (fun _ _ _ h => h) (Or.inl ⟨by rfl, ?hy3x4⟩) hHeld ?rest3x4
  case hy3x4 => (intro w hSw; go_simp <;> with_reducible rfl)
  try simp only [Act.put, List.setIfInBounds_toArray, List.set_cons_zero, List.set_cons_succ]
  refine wpAnyH_take (i := 4) (oi := { dst := some 19, op := _, type := _, pos := _, after := _, guard := _ }) (v := ?v3x5) rfl (by kernel_rfl) (by kernel_rfl) (by kernel_rfl) (fun _ _ _ h => h) (Or.inl ⟨by rfl, ?hy3x5⟩) hHeld ?rest3x5
  case hy3x5 => (intro w hSw; go_simp <;> with_reducible rfl)
  try simp only [Act.put, List.setIfInBounds_toArray, List.set_cons_zero, List.set_cons_succ]
  refine wpAnyH_take (i := 5) (oi := { dst := some 20, op := _, type := _, pos := _, after := _, guard := _ }) (v := ?v3x6) rfl (by kernel_rfl) (by kernel_rfl) (by kernel_rfl) (fun _ _ _ h => h) (Or.inl ⟨by rfl, ?hy3x6⟩) hHeld ?rest3x6
  case hy3x6 => (intro w hSw; go_simp <;> with_reducible rfl)
  try simp only [Act.put, List.setIfInBounds_toArray, List.set_cons_zero, List.set_cons_succ]
  refine wpAnyH_take (i := 6) (oi := { dst := some 21, op := _, type := _, pos := _, after := _, guard := _ }) (v := ?v3x7) rfl (by kernel_rfl) (by kernel_rfl) (by kernel_rfl) (fun _ _ _ h => h) (Or.inl ⟨by rfl, ?hy3x7⟩) hHeld ?rest3x7
  case hy3x7 => (intro w hSw; go_simp <;> with_reducible rfl)
  try simp only [Act.put, List.setIfInBounds_toArray, List.set_cons_zero, List.set_cons_succ]
  refine wpAnyH_take (i := 7) (oi := { dst := some 22, op := _, type := _, pos := _, after := _, guard := _ }) (v := ?v3x8) rfl (by kernel_rfl) (by kernel_rfl) (by kernel_rfl) (fun _ _ _ h => h) (Or.inl ⟨by rfl, ?hy3x8⟩) hHeld ?rest3x8
  case hy3x8 => (intro w hSw; go_simp <;> with_reducible rfl)
  try simp only [Act.put, List.setIfInBounds_toArray, List.set_cons_zero, List.set_cons_succ]
  refine wpAnyH_take (i := 8) (oi := { dst := some 23, op := _, type := _, pos := _, after := _, guard := _ }) (v := ?v3x9) rfl (by kernel_rfl) (by kernel_rfl) (by kernel_rfl) (fun _ _ _ h => h) (Or.inl ⟨by rfl, ?hy3x9⟩) hHeld ?rest3x9
  case hy3x9 => (intro w hSw; go_simp <;> with_reducible rfl)
  try simp only [Act.put, List.setIfInBounds_toArray, List.set_cons_zero, List.set_cons_succ]
  refine wpAnyH_take (i := 9) (oi := { dst := some 24, op := _, type := _, pos := _, after := _, guard := _ }) (v := ?v3x10) rfl (by kernel_rfl) (by kernel_rfl) (by kernel_rfl) (fun _ _ _ h => h) (Or.inl ⟨by rfl, ?hy3x10⟩) hHeld ?rest3x10
  case hy3x10 => (intro w hSw; go_simp <;> with_reducible rfl)
  try simp only [Act.put, List.setIfInBounds_toArray, List.set_cons_zero, List.set_cons_succ]
  refine wpAnyH_take (i := 10) (oi := { dst := some 25, op := _, type := _, pos := _, after := _, guard := _ }) (v := ?v3x11) rfl (by kernel_rfl) (by kernel_rfl) (by kernel_rfl) (fun _ _ _ h => h) (Or.inl ⟨by rfl, ?hy3x11⟩) hHeld ?rest3x11
  case hy3x11 => (intro w hSw; go_simp <;> with_reducible rfl)
  try simp only [Act.put, List.setIfInBounds_toArray, List.set_cons_zero, List.set_cons_succ]
  refine wpAnyH_take (i := 12) (oi := { dst := some 27, op := _, type := _, pos := _, after := _, guard := _ }) (v := ?v3x12) rfl (by kernel_rfl) (by kernel_rfl) (by kernel_rfl) (fun _ _ _ h => h) (Or.inl ⟨by rfl, ?hy3x12⟩) hHeld ?rest3x12
  case hy3x12 => (intro w hSw; go_simp <;> with_reducible rfl)
  try simp only [Act.put, List.setIfInBounds_toArray, List.set_cons_zero, List.set_cons_succ]
  refine wpAnyH_take (i := 13) (oi := { dst := some 28, op := _, type := _, pos := _, after := _, guard := _ }) (v := ?v3x13) rfl (by kernel_rfl) (by kernel_rfl) (by kernel_rfl) (fun _ _ _ h => h) (Or.inl ⟨by rfl, ?hy3x13⟩) hHeld ?rest3x13
  case hy3x13 => (intro w hSw; go_simp <;> with_reducible rfl)
  try simp only [Act.put, List.setIfInBounds_toArray, List.set_cons_zero, List.set_cons_succ]
  refine wpAnyH_take (i := 14) (oi := { dst := some 29, op := _, type := _, pos := _, after := _, guard := _ }) (v := ?v3x14) rfl (by kernel_rfl) (by kernel_rfl) (by kernel_rfl) (fun _ _ _ h => h) (Or.inl ⟨by rfl, ?hy3x14⟩) hHeld ?rest3x14
  case hy3x14 => (intro w hSw; go_simp <;> with_reducible rfl)
  try simp only [Act.put, List.setIfInBounds_toArray, List.set_cons_zero, List.set_cons_succ]
  refine wpAnyH_take (i := 15) (oi := { dst := some 30, op := _, type := _, pos := _, after := _, guard := _ }) (v := ?v3x15) rfl (by kernel_rfl) (by kernel_rfl) (by kernel_rfl) (fun _ _ _ h => h) (Or.inl ⟨by rfl, ?hy3x15⟩) hHeld ?rest3x15
  case hy3x15 => (intro w hSw; go_simp <;> with_reducible rfl)
  try simp only [Act.put, List.setIfInBounds_toArray, List.set_cons_zero, List.set_cons_succ]
  refine wpAnyH_ready (rs := [11]) (by kernel_rfl) (by simp) (AllReadyH.cons (o := { dst := some 26, op := _, type := _, pos := _, after := _, guard := _ }) rfl (fun K hK => ?_) AllReadyH.nil)
  go_simp
  refine HSIL.out.mono ?_
  rintro e w2 ⟨rfl, rfl⟩
  go_wp2_with fail
  refine hK.out _ _ ?_ (fun hHeld => ?_)
  · exact rfl
  clear hK K
  try simp only [Act.put, List.setIfInBounds_toArray, List.set_cons_zero, List.set_cons_succ]
  refine wpAnyH_take (i := 16) (oi := { dst := some 31, op := _, type := _, pos := _, after := _, guard := _ }) (v := ?v3x17) rfl (by kernel_rfl) (by kernel_rfl) (by kernel_rfl) (fun _ _ _ h => h) (Or.inl ⟨by rfl, ?hy3x17⟩) hHeld ?rest3x17
  case hy3x17 => (intro w hSw; go_simp <;> with_reducible rfl)
  try simp only [Act.put, List.setIfInBounds_toArray, List.set_cons_zero, List.set_cons_succ]
  refine wpAnyH_take (i := 17) (oi := { dst := some 32, op := _, type := _, pos := _, after := _, guard := _ }) (v := ?v3x18) rfl (by kernel_rfl) (by kernel_rfl) (by kernel_rfl) (fun _ _ _ h => h) (Or.inl ⟨by rfl, ?hy3x18⟩) hHeld ?rest3x18
  case hy3x18 => (intro w hSw; go_simp <;> with_reducible rfl)
  try simp only [Act.put, List.setIfInBounds_toArray, List.set_cons_zero, List.set_cons_succ]
  refine wpAnyH_done (by kernel_rfl) ?_ _
  go_wp2_with fail
  refine wp_region_held_drew (S := fun w' => w' = w1.drew.drew) (by kernel_rfl) ?_ (fun hHeld => ?_)
  · exact rfl
  refine wpAnyH_take (i := 0) (oi := { dst := some 33, op := _, type := _, pos := _, after := _, guard := _ }) (v := ?v4x1) rfl (by kernel_rfl) (by kernel_rfl) (by kernel_rfl) (fun _ _ _ h => h) (Or.inl ⟨by rfl, ?hy4x1⟩) hHeld ?rest4x1
  case hy4x1 => (intro w hSw; go_simp <;> with_reducible rfl)
  try simp only [Act.put, List.setIfInBounds_toArray, List.set_cons_zero, List.set_cons_succ]
  refine wpAnyH_take (i := 1) (oi := { dst := some 34, op := _, type := _, pos := _, after := _, guard := _ }) (v := ?v4x2) rfl (by kernel_rfl) (by kernel_rfl) (by kernel_rfl) (fun _ _ _ h => h) (Or.inl ⟨by rfl, ?hy4x2⟩) hHeld ?rest4x2
  case hy4x2 => (intro w hSw; go_simp <;> with_reducible rfl)
  try simp only [Act.put, List.setIfInBounds_toArray, List.set_cons_zero, List.set_cons_succ]
  refine wpAnyH_take (i := 2) (oi := { dst := some 35, op := _, type := _, pos := _, after := _, guard := _ }) (v := ?v4x3) rfl (by kernel_rfl) (by kernel_rfl) (by kernel_rfl) (fun _ _ _ h => h) (Or.inl ⟨by rfl, ?hy4x3⟩) hHeld ?rest4x3
  case hy4x3 => (intro w hSw; go_simp <;> with_reducible rfl)
  try simp only [Act.put, List.setIfInBounds_toArray, List.set_cons_zero, List.set_cons_succ]
  refine wpAnyH_take (i := 3) (oi := { dst := some 36, op := _, type := _, pos := _, after := _, guard := _ }) (v := ?v4x4) rfl (by kernel_rfl) (by kernel_rfl) (by kernel_rfl) (fun _ _ _ h => h) (Or.inl ⟨by rfl, ?hy4x4⟩) hHeld ?rest4x4
  case hy4x4 => (intro w hSw; go_simp <;> with_reducible rfl)
  try simp only [Act.put, List.setIfInBounds_toArray, List.set_cons_zero, List.set_cons_succ]
  refine wpAnyH_take (i := 4) (oi := { dst := some 37, op := _, type := _, pos := _, after := _, guard := _ }) (v := ?v4x5) rfl (by kernel_rfl) (by kernel_rfl) (by kernel_rfl) (fun _ _ _ h => h) (Or.inl ⟨by rfl, ?hy4x5⟩) hHeld ?rest4x5
  case hy4x5 => (intro w hSw; go_simp <;> with_reducible rfl)
  try simp only [Act.put, List.setIfInBounds_toArray, List.set_cons_zero, List.set_cons_succ]
  refine wpAnyH_take (i := 5) (oi := { dst := some 38, op := _, type := _, pos := _, after := _, guard := _ }) (v := ?v4x6) rfl (by kernel_rfl) (by kernel_rfl) (by kernel_rfl) (fun _ _ _ h => h) (Or.inl ⟨by rfl, ?hy4x6⟩) hHeld ?rest4x6
  case hy4x6 => (intro w hSw; go_simp <;> with_reducible rfl)
  try simp only [Act.put, List.setIfInBounds_toArray, List.set_cons_zero, List.set_cons_succ]
  refine wpAnyH_take (i := 6) (oi := { dst := some 39, op := _, type := _, pos := _, after := _, guard := _ }) (v := ?v4x7) rfl (by kernel_rfl) (by kernel_rfl) (by kernel_rfl) (fun _ _ _ h => h) (Or.inl ⟨by rfl, ?hy4x7⟩) hHeld ?rest4x7
  case hy4x7 => (intro w hSw; go_simp <;> with_reducible rfl)
  try simp only [Act.put, List.setIfInBounds_toArray, List.set_cons_zero, List.set_cons_succ]
  refine wpAnyH_take (i := 7) (oi := { dst := some 40, op := _, type := _, pos := _, after := _, guard := _ }) (v := ?v4x8) rfl (by kernel_rfl) (by kernel_rfl) (by kernel_rfl) (fun _ _ _ h => h) (Or.inl ⟨by rfl, ?hy4x8⟩) hHeld ?rest4x8
  case hy4x8 => (intro w hSw; go_simp <;> with_reducible rfl)
  try simp only [Act.put, List.setIfInBounds_toArray, List.set_cons_zero, List.set_cons_succ]
  refine wpAnyH_take (i := 8) (oi := { dst := some 41, op := _, type := _, pos := _, after := _, guard := _ }) (v := ?v4x9) rfl (by kernel_rfl) (by kernel_rfl) (by kernel_rfl) (fun _ _ _ h => h) (Or.inl ⟨by rfl, ?hy4x9⟩) hHeld ?rest4x9
  case hy4x9 => (intro w hSw; go_simp <;> with_reducible rfl)
  try simp only [Act.put, List.setIfInBounds_toArray, List.set_cons_zero, List.set_cons_succ]
  refine wpAnyH_take (i := 9) (oi := { dst := some 42, op := _, type := _, pos := _, after := _, guard := _ }) (v := ?v4x10) rfl (by kernel_rfl) (by kernel_rfl) (by kernel_rfl) (fun _ _ _ h => h) (Or.inl ⟨by rfl, ?hy4x10⟩) hHeld ?rest4x10
  case hy4x10 => (intro w hSw; go_simp <;> with_reducible rfl)
  try simp only [Act.put, List.setIfInBounds_toArray, List.set_cons_zero, List.set_cons_succ]
  refine wpAnyH_take (i := 10) (oi := { dst := some 43, op := _, type := _, pos := _, after := _, guard := _ }) (v := ?v4x11) rfl (by kernel_rfl) (by kernel_rfl) (by kernel_rfl) (fun _ _ _ h => h) (Or.inl ⟨by rfl, ?hy4x11⟩) hHeld ?rest4x11
  case hy4x11 => (intro w hSw; go_simp <;> with_reducible rfl)
  try simp only [Act.put, List.setIfInBounds_toArray, List.set_cons_zero, List.set_cons_succ]
  refine wpAnyH_take (i := 11) (oi := { dst := some 44, op := _, type := _, pos := _, after := _, guard := _ }) (v := ?v4x12) rfl (by kernel_rfl) (by kernel_rfl) (by kernel_rfl) (fun _ _ _ h => h) (Or.inl ⟨by rfl, ?hy4x12⟩) hHeld ?rest4x12
  case hy4x12 => (intro w hSw; go_simp <;> with_reducible rfl)
  try simp only [Act.put, List.setIfInBounds_toArray, List.set_cons_zero, List.set_cons_succ]
  refine wpAnyH_done (by kernel_rfl) ?_ _
  go_wp2_with fail
  have hmay : y.r.may = true := by
    have := HQ.out.1.1
    rw [← EY.out] at this
    exact this
  have hb0 : Below w1.heap.size w1 w1.drew.drew := ((Below.refl _ _).drew).drew
  have ht16 : t ≤ 1000000 := by have := HQ.out.2.2; have := HK.out.a16; omega
  refine (msSend b y t s.last now w1.drew.drew (HB1.out.keep hb0) (HY1.out.keep hb0) (by have := HQ.out.2.1; omega) ht16 (by have := may_vs hmay; omega)).mono ?_
  rintro e wS ⟨O, z, rfl, zO, oO, ez, zP2, bS, hO⟩
  have ZO := hide zO
  have OO := hide oO
  have EZ := hide ez
  have ZP2 := hide zP2
  have BS := hide (But.after hb0 bS)
  have HOO := hide hO
  clear zO oO ez zP2 bS hO hb0 c0 c1 c6 c9
  go_wp2
  go_ret3
  have hbb : But m.S w wS := (B1.out.wide (S' := m.S) (fun i e => Or.inl e)).trans BS.out (fun i _ e => by subst e; exact Or.inr (Or.inr (Or.inr ⟨y, EO.out⟩)))
  have hA := A1.out.againS (t := t) (last := s.last) BS.out EO.out EY.out (t + 1) now ZP2.out
  have hs1 := B1.out.size
  have hs2 : w1.drew.drew.heap.size = w1.heap.size := rfl
  have hoo := HOO.out
  refine ⟨some ⟨O, 0, none⟩, none, 1, 0, [z], [], m, rfl, by show [z.wt] = [x]; rw [EZ.out, EY.out], Or.inr ⟨z, O, rfl, rfl, rfl, ZO.out, OO.out⟩, rfl, Or.inl ⟨rfl, rfl⟩, hA, rfl, Nat.le_succ _, hbb, fun i h => Or.inl h, ?_, (fun _ _ e => by cases e)⟩
  intro b' o' e
  injection e with e
  injection e with e _ _
  refine ⟨fun hc => ?_, by omega⟩
  have := A1.out.lt b' hc
  omega

set_option maxRecDepth 100000 in
set_option maxHeartbeats 2000000 in
theorem msStep_late (m : ML) (s : MSt) (now : Int) (x : Wt) (t : Int) (w : World) (h : MsA w m s) (hk : MOk s) (hb : tickBad s now = false) (hw : now ≤ 9223372036854775807) (hm : m.n ≤ 1000000) (ho : s.out = some (x, t)) (hd : ¬ now - s.last < s.wait) (ht : ¬ t < s.again + 1) :
    Calls Try.prog 11 #[.pointer (some ⟨m.g, 0, none⟩), .int .i64 now] w (RetStep m s now (stepR s now) w) := by
  rw [stepR_late hb ho hd ht]
  have KT := hide (mOk_late hk now hb x)
  obtain ⟨ST, hST⟩ : ∃ ST : MSt, ST = lateS s now x := ⟨_, rfl⟩
  have OT : Hid (ST.out = none ∧ ST.now = now ∧ (lateM m x now).o = none) := hide ⟨by rw [hST]; rfl, by rw [hST]; rfl, rfl⟩
  rw [← hST] at KT ⊢
  have HST := hide hST
  have HMN := hide hm
  clear hST hm
  have hO := h.out
  rw [ho] at hO
  obtain ⟨b, y, eo, ey, hB, hyo⟩ := hO.some_
  clear hO
  have HQ := hide (hk.omay x t ho)
  have HLA := hide (And.intro hk.l0 hk.l1)
  have HWW := hide hw
  have EO := hide eo
  have EY := hide ey
  have HO := hide ho
  have hbl := hB.lt
  have hbg : b ≠ m.g := (h.ne3 b y eo).1
  clear ey ho hw hB hyo
  obtain ⟨hn0, hn1⟩ := ok_lt hb
  have HR := hide (msReach_ok m s now w h hn1)
  have HK := hide hk
  have HN := hide (And.intro hn0 hn1)
  clear h hb hn0 hn1 hk
  go_enter Try.func11, Try.ntmps11
  go_wp2_with fail
  refine HR.out.mono ?_
  rintro e w1 ⟨rfl, a1, b1⟩
  have A1 := hide a1
  have B1 := hide b1
  obtain ⟨c0, c1, c2, c3, c4, c5, c6, c7⟩ := a1.blk.eight
  clear a1 b1 c2 c3 c4 c5 c7
  have q : decide (s.wait ≤ now - s.last) = true := decide_eq_true (by omega)
  have q2 : decide (t ≤ s.again) = false := decide_eq_false (by omega)
  clear hd ht
  rw [eo] at c6
  simp only [optP] at c6
  have hO1 := A1.out.out
  rw [HO.out] at hO1
  obtain ⟨b', y', eo', ey', hB1, hy1⟩ := hO1.some_
  rw [eo] at eo'
  injection eo' with eo'
  injection eo' with e1 e2
  subst e1 e2
  have HB1 := hide hB1
  have HY1 := hide hy1
  have hsil := msSilence b y t s.last now w1.drew hB1 HLA.out.1 (by have := HLA.out.2; have := HN.out.2; omega) HWW.out
  have HSIL := hide hsil
  have c9 : w1.cell? ⟨b, 9, none⟩ = some (.int .i64 t) := hB1.cell 9
  clear hO1 hB1 hy1 ey' hsil eo
  go_wp2_with fail
  refine wp_region_held_drew (S := fun w' => w' = w1.drew) (by kernel_rfl) ?_ (fun hHeld => ?_)
  · exact rfl
  refine wpAnyH_take (i := 0) (oi := { dst := some 15, op := _, type := _, pos := _, after := _, guard := _ }) (v := ?v5x1) rfl (by kernel_rfl) (by kernel_rfl) (by kernel_rfl) (fun _ _ _ h => h) (Or.inl ⟨by rfl, ?hy5x1⟩) hHeld ?rest5x1
  case hy5x1 => (intro w hSw; go_simp <;> with_reducible rfl)
  try simp only [Act.put, List.setIfInBounds_toArray, List.set_cons_zero, List.set_cons_succ]
  refine wpAnyH_take (i := 1) (oi := { dst := some 16, op := _, type := _, pos := _, after := _, guard := _ }) (v := ?v5x2) rfl (by kernel_rfl) (by kernel_rfl) (by kernel_rfl) (fun _ _ _ h => h) (Or.inl ⟨by rfl, ?hy5x2⟩) hHeld ?rest5x2
  case hy5x2 => (intro w hSw; go_simp <;> with_reducible rfl)
  try simp only [Act.put, List.setIfInBounds_toArray, List.set_cons_zero, List.set_cons_succ]
  refine wpAnyH_take (i := 2) (oi := { dst := some 17, op := _, type := _, pos := _, after := _, guard := _ }) (v := ?v5x3) rfl (by kernel_rfl) (by kernel_rfl) (by kernel_rfl) (fun _ _ _ h => h) (Or.inl ⟨by rfl, ?hy5x3⟩) hHeld ?rest5x3
  case hy5x3 => (intro w hSw; go_simp <;> with_reducible rfl)
  try simp only [Act.put, List.setIfInBounds_toArray, List.set_cons_zero, List.set_cons_succ]
  refine wpAnyH_take (i := 3) (oi := { dst := some 18, op := _, type := _, pos := _, after := _, guard := _ }) (v := ?v5x4) rfl (by kernel_rfl) (by kernel_rfl) (by kernel_rfl) (fun _ _ _ h => h) (Or.inl ⟨by rfl, ?hy5x4⟩) hHeld ?rest5x4
  case hy5x4 => (intro w hSw; go_simp <;> with_reducible rfl)
  try simp only [Act.put, List.setIfInBounds_toArray, List.set_cons_zero, List.set_cons_succ]
  refine wpAnyH_take (i := 4) (oi := { dst := some 19, op := _, type := _, pos := _, after := _, guard := _ }) (v := ?v5x5) rfl (by kernel_rfl) (by kernel_rfl) (by kernel_rfl) (fun _ _ _ h => h) (Or.inl ⟨by rfl, ?hy5x5⟩) hHeld ?rest5x5
  case hy5x5 => (intro w hSw; go_simp <;> with_reducible rfl)
  try simp only [Act.put, List.setIfInBounds_toArray, List.set_cons_zero, List.set_cons_succ]
  refine wpAnyH_take (i := 5) (oi := { dst := some 20, op := _, type := _, pos := _, after := _, guard := _ }) (v := ?v5x6) rfl (by kernel_rfl) (by kernel_rfl) (by kernel_rfl) (fun _ _ _ h => h) (Or.inl ⟨by rfl, ?hy5x6⟩) hHeld ?rest5x6
  case hy5x6 => (intro w hSw; go_simp <;> with_reducible rfl)
  try simp only [Act.put, List.setIfInBounds_toArray, List.set_cons_zero, List.set_cons_succ]
  refine wpAnyH_take (i := 6) (oi := { dst := some 21, op := _, type := _, pos := _, after := _, guard := _ }) (v := ?v5x7) rfl (by kernel_rfl) (by kernel_rfl) (by kernel_rfl) (fun _ _ _ h => h) (Or.inl ⟨by rfl, ?hy5x7⟩) hHeld ?rest5x7
  case hy5x7 => (intro w hSw; go_simp <;> with_reducible rfl)
  try simp only [Act.put, List.setIfInBounds_toArray, List.set_cons_zero, List.set_cons_succ]
  refine wpAnyH_take (i := 7) (oi := { dst := some 22, op := _, type := _, pos := _, after := _, guard := _ }) (v := ?v5x8) rfl (by kernel_rfl) (by kernel_rfl) (by kernel_rfl) (fun _ _ _ h => h) (Or.inl ⟨by rfl, ?hy5x8⟩) hHeld ?rest5x8
  case hy5x8 => (intro w hSw; go_simp <;> with_reducible rfl)
  try simp only [Act.put, List.setIfInBounds_toArray, List.set_cons_zero, List.set_cons_succ]
  refine wpAnyH_take (i := 8) (oi := { dst := some 23, op := _, type := _, pos := _, after := _, guard := _ }) (v := ?v5x9) rfl (by kernel_rfl) (by kernel_rfl) (by kernel_rfl) (fun _ _ _ h => h) (Or.inl ⟨by rfl, ?hy5x9⟩) hHeld ?rest5x9
  case hy5x9 => (intro w hSw; go_simp <;> with_reducible rfl)
  try simp only [Act.put, List.setIfInBounds_toArray, List.set_cons_zero, List.set_cons_succ]
  refine wpAnyH_take (i := 9) (oi := { dst := some 24, op := _, type := _, pos := _, after := _, guard := _ }) (v := ?v5x10) rfl (by kernel_rfl) (by kernel_rfl) (by kernel_rfl) (fun _ _ _ h => h) (Or.inl ⟨by rfl, ?hy5x10⟩) hHeld ?rest5x10
  case hy5x10 => (intro w hSw; go_simp <;> with_reducible rfl)
  try simp only [Act.put, List.setIfInBounds_toArray, List.set_cons_zero, List.set_cons_succ]
  refine wpAnyH_take (i := 10) (oi := { dst := some 25, op := _, type := _, pos := _, after := _, guard := _ }) (v := ?v5x11) rfl (by kernel_rfl) (by kernel_rfl) (by kernel_rfl) (fun _ _ _ h => h) (Or.inl ⟨by rfl, ?hy5x11⟩) hHeld ?rest5x11
  case hy5x11 => (intro w hSw; go_simp <;> with_reducible rfl)
  try simp only [Act.put, List.setIfInBounds_toArray, List.set_cons_zero, List.set_cons_succ]
  refine wpAnyH_take (i := 12) (oi := { dst := some 27, op := _, type := _, pos := _, after := _, guard := _ }) (v := ?v5x12) rfl (by kernel_rfl) (by kernel_rfl) (by kernel_rfl) (fun _ _ _ h => h) (Or.inl ⟨by rfl, ?hy5x12⟩) hHeld ?rest5x12
  case hy5x12 => (intro w hSw; go_simp <;> with_reducible rfl)
  try simp only [Act.put, List.setIfInBounds_toArray, List.set_cons_zero, List.set_cons_succ]
  refine wpAnyH_take (i := 13) (oi := { dst := some 28, op := _, type := _, pos := _, after := _, guard := _ }) (v := ?v5x13) rfl (by kernel_rfl) (by kernel_rfl) (by kernel_rfl) (fun _ _ _ h => h) (Or.inl ⟨by rfl, ?hy5x13⟩) hHeld ?rest5x13
  case hy5x13 => (intro w hSw; go_simp <;> with_reducible rfl)
  try simp only [Act.put, List.setIfInBounds_toArray, List.set_cons_zero, List.set_cons_succ]
  refine wpAnyH_take (i := 14) (oi := { dst := some 29, op := _, type := _, pos := _, after := _, guard := _ }) (v := ?v5x14) rfl (by kernel_rfl) (by kernel_rfl) (by kernel_rfl) (fun _ _ _ h => h) (Or.inl ⟨by rfl, ?hy5x14⟩) hHeld ?rest5x14
  case hy5x14 => (intro w hSw; go_simp <;> with_reducible rfl)
  try simp only [Act.put, List.setIfInBounds_toArray, List.set_cons_zero, List.set_cons_succ]
  refine wpAnyH_take (i := 15) (oi := { dst := some 30, op := _, type := _, pos := _, after := _, guard := _ }) (v := ?v5x15) rfl (by kernel_rfl) (by kernel_rfl) (by kernel_rfl) (fun _ _ _ h => h) (Or.inl ⟨by rfl, ?hy5x15⟩) hHeld ?rest5x15
  case hy5x15 => (intro w hSw; go_simp <;> with_reducible rfl)
  try simp only [Act.put, List.setIfInBounds_toArray, List.set_cons_zero, List.set_cons_succ]
  refine wpAnyH_ready (rs := [11]) (by kernel_rfl) (by simp) (AllReadyH.cons (o := { dst := some 26, op := _, type := _, pos := _, after := _, guard := _ }) rfl (fun K hK => ?_) AllReadyH.nil)
  go_simp
  refine HSIL.out.mono ?_
  rintro e w2 ⟨rfl, rfl⟩
  go_wp2_with fail
  refine hK.out _ _ ?_ (fun hHeld => ?_)
  · exact rfl
  clear hK K
  try simp only [Act.put, List.setIfInBounds_toArray, List.set_cons_zero, List.set_cons_succ]
  refine wpAnyH_take (i := 16) (oi := { dst := some 31, op := _, type := _, pos := _, after := _, guard := _ }) (v := ?v5x17) rfl (by kernel_rfl) (by kernel_rfl) (by kernel_rfl) (fun _ _ _ h => h) (Or.inl ⟨by rfl, ?hy5x17⟩) hHeld ?rest5x17
  case hy5x17 => (intro w hSw; go_simp <;> with_reducible rfl)
  try simp only [Act.put, List.setIfInBounds_toArray, List.set_cons_zero, List.set_cons_succ]
  refine wpAnyH_take (i := 17) (oi := { dst := some 32, op := _, type := _, pos := _, after := _, guard := _ }) (v := ?v5x18) rfl (by kernel_rfl) (by kernel_rfl) (by kernel_rfl) (fun _ _ _ h => h) (Or.inl ⟨by rfl, ?hy5x18⟩) hHeld ?rest5x18
  case hy5x18 => (intro w hSw; go_simp <;> with_reducible rfl)
  try simp only [Act.put, List.setIfInBounds_toArray, List.set_cons_zero, List.set_cons_succ]
  refine wpAnyH_done (by kernel_rfl) ?_ _
  go_wp2_with fail
  refine wp_region_held_drew (S := fun w' => w' = w1.drew.drew) (by kernel_rfl) ?_ (fun hHeld => ?_)
  · exact rfl
  refine wpAnyH_take (i := 0) (oi := { dst := some 33, op := _, type := _, pos := _, after := _, guard := _ }) (v := ?v6x1) rfl (by kernel_rfl) (by kernel_rfl) (by kernel_rfl) (fun _ _ _ h => h) (Or.inl ⟨by rfl, ?hy6x1⟩) hHeld ?rest6x1
  case hy6x1 => (intro w hSw; go_simp <;> with_reducible rfl)
  try simp only [Act.put, List.setIfInBounds_toArray, List.set_cons_zero, List.set_cons_succ]
  refine wpAnyH_take (i := 1) (oi := { dst := some 34, op := _, type := _, pos := _, after := _, guard := _ }) (v := ?v6x2) rfl (by kernel_rfl) (by kernel_rfl) (by kernel_rfl) (fun _ _ _ h => h) (Or.inl ⟨by rfl, ?hy6x2⟩) hHeld ?rest6x2
  case hy6x2 => (intro w hSw; go_simp <;> with_reducible rfl)
  try simp only [Act.put, List.setIfInBounds_toArray, List.set_cons_zero, List.set_cons_succ]
  refine wpAnyH_take (i := 2) (oi := { dst := some 35, op := _, type := _, pos := _, after := _, guard := _ }) (v := ?v6x3) rfl (by kernel_rfl) (by kernel_rfl) (by kernel_rfl) (fun _ _ _ h => h) (Or.inl ⟨by rfl, ?hy6x3⟩) hHeld ?rest6x3
  case hy6x3 => (intro w hSw; go_simp <;> with_reducible rfl)
  try simp only [Act.put, List.setIfInBounds_toArray, List.set_cons_zero, List.set_cons_succ]
  refine wpAnyH_take (i := 3) (oi := { dst := some 36, op := _, type := _, pos := _, after := _, guard := _ }) (v := ?v6x4) rfl (by kernel_rfl) (by kernel_rfl) (by kernel_rfl) (fun _ _ _ h => h) (Or.inl ⟨by rfl, ?hy6x4⟩) hHeld ?rest6x4
  case hy6x4 => (intro w hSw; go_simp <;> with_reducible rfl)
  try simp only [Act.put, List.setIfInBounds_toArray, List.set_cons_zero, List.set_cons_succ]
  refine wpAnyH_take (i := 4) (oi := { dst := some 37, op := _, type := _, pos := _, after := _, guard := _ }) (v := ?v6x5) rfl (by kernel_rfl) (by kernel_rfl) (by kernel_rfl) (fun _ _ _ h => h) (Or.inl ⟨by rfl, ?hy6x5⟩) hHeld ?rest6x5
  case hy6x5 => (intro w hSw; go_simp <;> with_reducible rfl)
  try simp only [Act.put, List.setIfInBounds_toArray, List.set_cons_zero, List.set_cons_succ]
  refine wpAnyH_take (i := 5) (oi := { dst := some 38, op := _, type := _, pos := _, after := _, guard := _ }) (v := ?v6x6) rfl (by kernel_rfl) (by kernel_rfl) (by kernel_rfl) (fun _ _ _ h => h) (Or.inl ⟨by rfl, ?hy6x6⟩) hHeld ?rest6x6
  case hy6x6 => (intro w hSw; go_simp <;> with_reducible rfl)
  try simp only [Act.put, List.setIfInBounds_toArray, List.set_cons_zero, List.set_cons_succ]
  refine wpAnyH_take (i := 6) (oi := { dst := some 39, op := _, type := _, pos := _, after := _, guard := _ }) (v := ?v6x7) rfl (by kernel_rfl) (by kernel_rfl) (by kernel_rfl) (fun _ _ _ h => h) (Or.inl ⟨by rfl, ?hy6x7⟩) hHeld ?rest6x7
  case hy6x7 => (intro w hSw; go_simp <;> with_reducible rfl)
  try simp only [Act.put, List.setIfInBounds_toArray, List.set_cons_zero, List.set_cons_succ]
  refine wpAnyH_take (i := 7) (oi := { dst := some 40, op := _, type := _, pos := _, after := _, guard := _ }) (v := ?v6x8) rfl (by kernel_rfl) (by kernel_rfl) (by kernel_rfl) (fun _ _ _ h => h) (Or.inl ⟨by rfl, ?hy6x8⟩) hHeld ?rest6x8
  case hy6x8 => (intro w hSw; go_simp <;> with_reducible rfl)
  try simp only [Act.put, List.setIfInBounds_toArray, List.set_cons_zero, List.set_cons_succ]
  refine wpAnyH_take (i := 8) (oi := { dst := some 41, op := _, type := _, pos := _, after := _, guard := _ }) (v := ?v6x9) rfl (by kernel_rfl) (by kernel_rfl) (by kernel_rfl) (fun _ _ _ h => h) (Or.inl ⟨by rfl, ?hy6x9⟩) hHeld ?rest6x9
  case hy6x9 => (intro w hSw; go_simp <;> with_reducible rfl)
  try simp only [Act.put, List.setIfInBounds_toArray, List.set_cons_zero, List.set_cons_succ]
  refine wpAnyH_take (i := 9) (oi := { dst := some 42, op := _, type := _, pos := _, after := _, guard := _ }) (v := ?v6x10) rfl (by kernel_rfl) (by kernel_rfl) (by kernel_rfl) (fun _ _ _ h => h) (Or.inl ⟨by rfl, ?hy6x10⟩) hHeld ?rest6x10
  case hy6x10 => (intro w hSw; go_simp <;> with_reducible rfl)
  try simp only [Act.put, List.setIfInBounds_toArray, List.set_cons_zero, List.set_cons_succ]
  refine wpAnyH_take (i := 10) (oi := { dst := some 43, op := _, type := _, pos := _, after := _, guard := _ }) (v := ?v6x11) rfl (by kernel_rfl) (by kernel_rfl) (by kernel_rfl) (fun _ _ _ h => h) (Or.inl ⟨by rfl, ?hy6x11⟩) hHeld ?rest6x11
  case hy6x11 => (intro w hSw; go_simp <;> with_reducible rfl)
  try simp only [Act.put, List.setIfInBounds_toArray, List.set_cons_zero, List.set_cons_succ]
  refine wpAnyH_take (i := 11) (oi := { dst := some 44, op := _, type := _, pos := _, after := _, guard := _ }) (v := ?v6x12) rfl (by kernel_rfl) (by kernel_rfl) (by kernel_rfl) (fun _ _ _ h => h) (Or.inl ⟨by rfl, ?hy6x12⟩) hHeld ?rest6x12
  case hy6x12 => (intro w hSw; go_simp <;> with_reducible rfl)
  try simp only [Act.put, List.setIfInBounds_toArray, List.set_cons_zero, List.set_cons_succ]
  refine wpAnyH_done (by kernel_rfl) ?_ _
  go_wp2_with fail
  have hb0 : Below w1.heap.size w1 w1.drew.drew := ((Below.refl _ _).drew).drew
  refine (msGive m _ x t now w1.drew.drew (A1.out.keep hb0) HO.out rfl HN.out.1 HWW.out HQ.out.1.2.1 HQ.out.1.2.2.1 HMN.out).mono ?_
  rintro e wG ⟨DO, rfl, zD, hDO, aG, bG⟩
  have aG' : MsA wG (lateM m x now) ST := by
    rw [HST.out]
    exact aG
  have AT := hide aG'
  have BT : Hid (But m.S w wG) := hide ((B1.out.wide (S' := m.S) (fun i e => Or.inl e)).trans (But.after hb0 bG) (fun i _ e => e))
  have DT : Hid (DRd wG (some ⟨DO, 0, none⟩) 1 [⟨x.tk, An.none, true, none, 0⟩] ∧ List.map DM.dn [⟨x.tk, An.none, true, none, 0⟩] = [⟨x.tk, An.none, true⟩]) := hide ⟨Or.inr ⟨_, DO, rfl, rfl, rfl, zD, Rd.nil _ _⟩, rfl⟩
  have NT : Hid ((lateM m x now).n ≤ m.n + 1) := hide (Nat.le_refl _)
  have SS : Hid (∀ i, ML.S (lateM m x now) i → m.S i ∨ w.heap.size ≤ i) := hide (fun i h => Or.inl (lateM_S h))
  have hs1 := B1.out.size
  have hs2 : w1.drew.drew.heap.size = w1.heap.size := rfl
  have PT : Hid (∀ b o, (some ⟨DO, 0, none⟩ : Option Addr) = some ⟨b, o, none⟩ → ¬ ML.S (lateM m x now) b ∧ w.heap.size ≤ b) := hide (fun b' o' e => by
    injection e with e
    injection e with e _ _
    refine ⟨fun hc => ?_, by omega⟩
    have := A1.out.lt b' (lateM_S hc)
    omega)
  have PL : Hid (∀ b o, (some ⟨DO, 0, none⟩ : Option Addr) = some ⟨b, o, none⟩ → b < wG.heap.size) := hide (fun b' o' e => by
    injection e with e
    injection e with e _ _
    have := zD.lt
    omega)
  have VT : Hid (∀ {S : Nat → Prop}, ∀ d ∈ ([⟨x.tk, An.none, true, none, 0⟩] : List DM), Off S d.V) := hide (fun d hd => by simp at hd; subst hd; exact Off.none_ _)
  have g6 : wG.cell? ⟨m.g, 6, none⟩ = some (.pointer none) := aG.blk.cell 6
  clear aG aG' bG zD hDO hb0 c0 c1 c6 c9 q q2 hs1 hs2
  go_wp2_with fail
  clear g6
  refine (msEndRests (lateM m x now) ST now wG AT.out OT.out.2.1 HWW.out).mono ?_
  rintro e wE ⟨rfl, aE, rX, bE⟩
  have AE := hide aE
  have RX := hide rX
  have BE := hide bE
  clear aE rX bE
  go_wp2_with fail
  refine (msNext { (lateM m x now) with D := overD (lateM m x now) ST } ST wE AE.out RX.out OT.out.2.2 (fun x hx => ⟨(KT.out.may x hx).2.1, (KT.out.may x hx).2.2.1⟩) (by have := KT.out.len; omega)).mono ?_
  rintro e wN hN
  unfold RetNext at hN
  cases hf' : freeAt ST.till ST.now ST.line with
  | none =>
    rw [hf'] at hN
    have hf := hf'
    rw [OT.out.2.1] at hf
    obtain ⟨rfl, aN, bN⟩ := hN
    have g6 : wN.cell? ⟨m.g, 6, none⟩ = some (.pointer (optP (ML.o (lateM m x now)))) := aN.blk.cell 6
    have fz : ∀ i, wN.frozen? ⟨m.g, i, none⟩ = false := aN.blk.frozen
    have AN := hide aN
    have BN := hide bN
    clear aN bN
    go_wp2
    go_ret3
    have hX : But (fun i => i = m.g) wN (wN.setCell ⟨m.g, 6, none⟩ (.pointer none)) := But.setCell wN _ rfl
    have hAX : MsA (wN.setCell ⟨m.g, 6, none⟩ (.pointer none)) { (lateM m x now) with D := overD (lateM m x now) ST } ST := by
      refine AN.out.turnG hX ST ?_ rfl rfl rfl AN.out.rests
      have := AN.out.blk.set 6 (.pointer none)
      have ho := OT.out.2.2
      have e : mcs { (lateM m x now) with D := overD (lateM m x now) ST } ST = (mcs { (lateM m x now) with D := overD (lateM m x now) ST } ST).set 6 (.pointer none) := by
        show [_, _, _, _, _, _, _, _] = [_, _, _, _, _, _, _, _]
        simp only [List.cons.injEq, and_true, true_and]
        first | rfl | (rw [ho]; rfl)
      rw [e]
      exact this
    have hbb : But m.S w (wN.setCell ⟨m.g, 6, none⟩ (.pointer none)) := by
      have h1 : But m.S w wE := BT.out.trans BE.out (fun i _ e => Or.inr (Or.inl e))
      exact (h1.on BN.out).trans hX (fun i _ e => Or.inl e)
    have hs : sendS ST now = ([], ST) := by unfold sendS; rw [hf]
    rw [hs]
    have htail : But (fun i => i = m.g ∨ i = m.gm) wG (wN.setCell ⟨m.g, 6, none⟩ (.pointer none)) := ((BE.out.wide (S' := fun i => i = m.g ∨ i = m.gm) (fun i e => Or.inr e)).on BN.out).trans hX (fun i _ e => Or.inl e)
    refine ⟨none, (some ⟨DO, 0, none⟩), 0, 1, [], [⟨x.tk, An.none, true, none, 0⟩], { (lateM m x now) with D := overD (lateM m x now) ST }, rfl, rfl, Or.inl ⟨rfl, rfl⟩, DT.out.2, ?_, hAX, rfl, NT.out, hbb, ?_, (fun _ _ e => by cases e), ?_⟩
    · exact DT.out.1.but htail (fun b o e => by
        have := (PT.out b o e).1
        rintro (e | e)
        · exact this (Or.inl e)
        · exact this (Or.inr (Or.inl e))) VT.out
    · intro i hi
      exact SS.out i hi
    · intro b o e
      exact PT.out b o e
  | some q =>
    obtain ⟨qa, qx, qb⟩ := q
    rw [hf'] at hN
    have hf := hf'
    rw [OT.out.2.1] at hf
    obtain ⟨p, y, ws', rfl, ey, zP, oP, hp, aN, bN⟩ := hN
    have g6 : wN.cell? ⟨m.g, 6, none⟩ = some (.pointer (optP (ML.o (lateM m x now)))) := aN.blk.cell 6
    have fz : ∀ i, wN.frozen? ⟨m.g, i, none⟩ = false := aN.blk.frozen
    have hpg : p ≠ m.g := zP.ne aN.blk (by decide)
    have AN := hide aN
    have BN := hide bN
    have ZP := hide zP
    have OP := hide oP
    have EY := hide ey
    have HP := hide hp
    clear aN bN zP oP ey hp
    go_wp2_with fail
    have hX : But (fun i => i = m.g) wN (wN.setCell ⟨m.g, 6, none⟩ (.pointer (some ⟨p, 0, none⟩))) := But.setCell wN _ rfl
    have hGX : Blk (wN.setCell ⟨m.g, 6, none⟩ (.pointer (some ⟨p, 0, none⟩))) m.g 68 (mcs { (lateM m x now) with D := overD (lateM m x now) ST, ws := ws', o := some (p, y) } { ST with line := qa ++ qb }) := AN.out.blk.set 6 (.pointer (some ⟨p, 0, none⟩))
    have hZX := ZP.out.but hX hpg
    have hOX := OP.out.but hX (fun b' o' e' h' => AN.out.off OP.out b' o' e' (Or.inl h'))
    clear g6 fz
    generalize wN.setCell ⟨m.g, 6, none⟩ (.pointer (some ⟨p, 0, none⟩)) = X at *
    have HX := hide hX
    have HGX := hide hGX
    have HZX := hide hZX
    have hmay : y.r.may = true := by
      have hx := (freeAt_some hf).1
      have := (KT.out.may qx (by rw [hx]; simp)).1
      rw [← EY.out] at this
      exact this
    refine (msSend p y 0 0 now X hZX hOX (by omega) (by omega) (by have := may_vs hmay; omega)).mono ?_
    rintro e wS ⟨O, z, rfl, zO, oO, ez, zP2, bS, hO⟩
    have ZO := hide zO
    have OO := hide oO
    have EZ := hide ez
    have ZP2 := hide zP2
    have BS := hide bS
    have HO := hide hO
    clear zO oO ez zP2 bS hO hX hGX hZX hOX
    go_wp2
    go_ret3
    have hs : sendS ST now = ([qx], { ST with line := qa ++ qb, out := some (qx, 1), last := now }) := by unfold sendS; rw [hf]
    rw [hs]
    have hbX : But (fun i => i = m.g ∨ i = p) wN wS := (HX.out.wide (S' := fun i => i = m.g ∨ i = p) (fun i e => Or.inl e)).trans BS.out (fun i _ e => Or.inr e)
    have hszE : wG.heap.size ≤ wE.heap.size := BE.out.size
    have hszN : wE.heap.size ≤ wN.heap.size := BN.out.size
    have hszX : wN.heap.size ≤ X.heap.size := HX.out.size
    have hszS : w.heap.size ≤ wG.heap.size := BT.out.size
    have hpl : wE.heap.size ≤ p := HP.out
    have hltE : ∀ i, ML.S (lateM m x now) i → i < wG.heap.size := AT.out.lt
    have hpS : ¬ ML.S (lateM m x now) p := fun hc => by have := hltE p hc; omega
    have hpS' : ¬ ML.S { (lateM m x now) with D := overD (lateM m x now) ST, ws := ws' } p := hpS
    have hGS : Blk wS m.g 68 (mcs { (lateM m x now) with D := overD (lateM m x now) ST, ws := ws', o := some (p, y) } { ST with line := qa ++ qb }) := HGX.out.but BS.out (fun e => hpg e.symm)
    have hyS : y.own wS := OP.out.but hbX (fun b' o' e' h' => by
      rcases h' with rfl | rfl
      · exact AN.out.off OP.out _ o' e' (Or.inl rfl)
      · exact own_ne OP.out ZP.out (by decide) e' rfl)
    have hAS := MsA.outed (y := y) AN.out hbX hpS' ZP.out 1 now hGS ZP2.out hyS
    rw [EY.out] at hAS
    have hsub : ∀ i, ML.S { (lateM m x now) with D := overD (lateM m x now) ST, ws := ws', o := some (p, y) } i → ML.S (lateM m x now) i ∨ i = p := by
      rintro i (h | h | h | ⟨_, h⟩)
      · exact Or.inl (Or.inl h)
      · exact Or.inl (Or.inr (Or.inl h))
      · exact Or.inl (Or.inr (Or.inr (Or.inl h)))
      · injection h with h
        injection h with h _
        exact Or.inr h.symm
    have hall : But m.S w wS := by
      have h1 : But m.S w wE := BT.out.trans BE.out (fun i _ e => Or.inr (Or.inl e))
      have h2 : But m.S w wN := h1.trans BN.out (fun i hi e => (SS.out i e).elim id (fun h => by omega))
      exact h2.trans hbX (fun i hi e => e.elim Or.inl (fun e => by omega))
    refine ⟨some ⟨O, 0, none⟩, (some ⟨DO, 0, none⟩), 1, 1, [z], [⟨x.tk, An.none, true, none, 0⟩], { (lateM m x now) with D := overD (lateM m x now) ST, ws := ws', o := some (p, y) }, rfl, by show [z.wt] = [qx]; rw [EZ.out, EY.out], Or.inr ⟨z, O, rfl, rfl, rfl, ZO.out, OO.out⟩, DT.out.2, ?_, hAS, rfl, NT.out, hall, ?_, ?_, ?_⟩
    · have h0 := BE.out.wide (S' := fun i => ML.S (lateM m x now) i ∨ i = p) (fun i e => Or.inl (Or.inr (Or.inl e)))
      have h1 := h0.trans BN.out (fun i _ e => Or.inl e)
      have h2 := h1.trans hbX (fun i _ e => e.elim (fun e => Or.inl (Or.inl e)) Or.inr)
      exact DT.out.1.but h2 (fun b o e hc => by
        rcases hc with hc | hc
        · exact (PT.out b o e).1 hc
        · subst hc
          have := PL.out b o e
          omega) VT.out
    · intro i hi
      rcases hsub i hi with hi | hi
      · exact SS.out i hi
      · exact Or.inr (by omega)
    · intro b o e
      injection e with e
      injection e with e _ _
      have hoo := HO.out
      refine ⟨fun hc => ?_, by omega⟩
      rcases hsub b hc with hc | hc
      · have := hltE b hc
        omega
      · have := ZP.out.lt
        omega
    · intro b o e
      refine ⟨fun hc => ?_, (PT.out b o e).2⟩
      rcases hsub b hc with hc | hc
      · exact (PT.out b o e).1 hc
      · have := PL.out b o e
        omega

theorem msStep_any (m : ML) (s : MSt) (now : Int) (w : World) (h : MsA w m s) (hk : MOk s) (hw : now ≤ 9223372036854775807) (hm : m.n ≤ 1000000) :
    Calls Try.prog 11 #[.pointer (some ⟨m.g, 0, none⟩), .int .i64 now] w (RetStep m s now (stepR s now) w) := by
  cases hb : tickBad s now
  · rcases out_cases s with ho | ⟨x, t, ho⟩
    · exact msStep_none m s now w h hk hb hw hm ho
    · by_cases hd : now - s.last < s.wait
      · exact msStep_wait m s now x t w h hk hb hw ho hd
      by_cases ht : t < s.again + 1
      · exact msStep_again m s now x t w h hk hb hw ho hd ht
      · exact msStep_late m s now x t w h hk hb hw hm ho hd ht
  · exact msStep_bad m s now w h hk hb
end Go.Proofs.Ytfpfijggmfeejaa
