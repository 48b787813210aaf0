/-
  What is proved here: what the document's own Came of layer 7 answers, and what becomes of its master. Conditions: the master keeps to MOk; at most 600 bytes come.
-/
import Derived.Test.YtfpfijggmfeejaaRs3
import Derived.Test.YtfpfijggmfeejaaRef3o
namespace Go.Proofs.Ytfpfijggmfeejaa
set_option linter.unusedVariables false
set_option linter.unusedSimpArgs false
open Go.RowKit Go.Maps

/-- What the document's Came answers. -/
def RetRCame (R : RL) (Z : List Dn × Int × MSt) (w : World) (e : Ending) (w' : World) : Prop :=
  ∃ (P : Option Addr) (l : Nat) (ds : List DM) (R' : RL), e = .returned (.tuple #[.slice P ds.length l, .int .i64 Z.2.1]) ∧ ds.map DM.dn = Z.1 ∧ DRd w' P ds.length ds ∧ RsA w' R' Z.2.2 ∧ R'.g = R.g ∧ But R.S w w' ∧ (∀ i, R'.S i → R.S i ∨ w.heap.size ≤ i)
theorem RetRCame.none_ {R : RL} {E : Int} {s' : MSt} {w w' : World} (h : RsA w' R s') (b : But R.S w w') : RetRCame R ([], E, s') w (.returned (.tuple #[.slice none 0 0, .int .i64 E])) w' :=
  ⟨none, 0, [], R, rfl, rfl, Or.inl ⟨rfl, rfl⟩, h, rfl, b, fun i h => Or.inl h⟩

/-- A row of ints survives a write to a cell that held a slice. -/
theorem Rd.slset {w : World} {C : Option Addr} {n : Nat} {us : List Int} (h : Rd w C n (iv us)) {p : Addr} {A : Option Addr} {l c : Nat} (hp : w.cell? p = some (.slice A l c)) (x : Value) : Rd (w.setCell p x) C n (iv us) :=
  ⟨h.1, fun hn => by
    obtain ⟨b, o, e, hl, hc⟩ := h.2 hn
    refine ⟨b, o, e, by simpa [World.setCell] using hl, fun i v hv => ?_⟩
    have hcv := hc i v hv
    have hne : (⟨b, o + i, none⟩ : Addr) ≠ p := by
      rintro rfl
      rw [hcv] at hp
      obtain ⟨z, _, rfl⟩ : ∃ z, z ∈ us ∧ Value.int .i64 z = v := by simpa [iv] using List.mem_of_getElem? hv
      simp at hp
    rw [World.cell?_setCell_other _ _ _ _ (Ne.symm hne)]
    exact hcv⟩
theorem RsA.gone {w w' : World} {R : RL} {s : MSt} (h : RsA w R s) (b : But (fun i => i = R.g) w w') (hblk : Blk w' R.g 34 (rcs { R with o := none } { s with out := none })) : RsA w' { R with o := none } { s with out := none } := by
  refine ⟨hblk, ownS_but h.row b (fun _ _ e h' => h.ne.1 _ _ e h'), fun x hx => (h.own x hx).but b (fun b' o e h' => h.off (h.own x hx) b' o e (Or.inl h')), h.wl, trivial, fun _ _ _ _ e => by cases e⟩
theorem RL.S_gone {R : RL} {i : Nat} (h : ({ R with o := none } : RL).S i) : R.S i := by
  rcases h with h | h | ⟨y, e⟩
  · exact Or.inl h
  · exact Or.inr (Or.inl h)
  · cases e
theorem rsCame_bad (R : RL) (s : MSt) (now u : Int) (B : Option Addr) (l d : Nat) (xs : List UInt8) (w : World) (h : RsA w R s) (hb : tickBad s now = true) :
    Calls Try.prog 17 #[.pointer (some ⟨R.g, 0, none⟩), .int .i64 now, .int .i64 u, .slice B l d] w (RetRCame R (cameR s now u xs) w) := by
  rw [cameR_bad hb]
  have c3 : w.cell? ⟨R.g, 3, none⟩ = some (.int .i64 s.now) := h.blk.cell 3
  have H := hide h
  clear h
  by_cases h0 : now < 0
  · clear hb
    go_enter Try.func17, Try.ntmps17
    go_wp2
    go_ret2
    exact RetRCame.none_ H.out (But.refl _ _)
  · have h1 : now < s.now := by simp only [tickBad, Bool.or_eq_true, decide_eq_true_eq] at hb; omega
    clear hb
    go_enter Try.func17, Try.ntmps17
    go_wp2
    go_ret2
    exact RetRCame.none_ H.out (But.refl _ _)
theorem rsCame_none (R : RL) (s : MSt) (now u : Int) (B : Option Addr) (l d : Nat) (xs : List UInt8) (w : World) (h : RsA w R s) (hb : tickBad s now = false) (ho : s.out = none) :
    Calls Try.prog 17 #[.pointer (some ⟨R.g, 0, none⟩), .int .i64 now, .int .i64 u, .slice B l d] w (RetRCame R (cameR s now u xs) w) := by
  rw [cameR_none hb ho]
  have hmo : R.o = none := by
    have := h.out
    rw [ho] at this
    exact this.none_
  obtain ⟨hn0, hn1⟩ := ok_lt hb
  have c3 : w.cell? ⟨R.g, 3, none⟩ = some (.int .i64 s.now) := h.blk.cell 3
  have c7 : w.cell? ⟨R.g, 7, none⟩ = some (outV R.o) := h.blk.cell 7
  have fz := h.blk.frozen
  have hX : But (fun i => i = R.g) w (w.setCell ⟨R.g, 3, none⟩ (.int .i64 now)) := But.setCell w _ rfl
  have hAX : RsA (w.setCell ⟨R.g, 3, none⟩ (.int .i64 now)) R { s with now := now } := h.turnG hX { s with now := now } (h.blk.set 3 _) rfl rfl
  have H := hide h
  have AX := hide hAX
  have BX := hide (hX.wide (S' := R.S) (fun i e => Or.inl e))
  clear hb hX hAX
  clear h ho
  rw [hmo] at c7
  simp only [outV] at c7
  clear hmo
  go_enter Try.func17, Try.ntmps17
  go_wp2
  go_ret2
  exact RetRCame.none_ AX.out BX.out
theorem rsCame_unit (R : RL) (s : MSt) (now u : Int) (x : Wt) (t : Int) (B : Option Addr) (l d : Nat) (xs : List UInt8) (w : World) (h : RsA w R s) (hb : tickBad s now = false) (ho : s.out = some (x, t)) (hu : ¬ x.u = u) :
    Calls Try.prog 17 #[.pointer (some ⟨R.g, 0, none⟩), .int .i64 now, .int .i64 u, .slice B l d] w (RetRCame R (cameR s now u xs) w) := by
  rw [cameR_unit hb ho hu]
  obtain ⟨hn0, hn1⟩ := ok_lt hb
  have c3 : w.cell? ⟨R.g, 3, none⟩ = some (.int .i64 s.now) := h.blk.cell 3
  have c7 : w.cell? ⟨R.g, 7, none⟩ = some (outV R.o) := h.blk.cell 7
  have fz := h.blk.frozen
  have hX : But (fun i => i = R.g) w (w.setCell ⟨R.g, 3, none⟩ (.int .i64 now)) := But.setCell w _ rfl
  have hAX : RsA (w.setCell ⟨R.g, 3, none⟩ (.int .i64 now)) R { s with now := now } := h.turnG hX { s with now := now } (h.blk.set 3 _) rfl rfl
  have H := hide h
  have AX := hide hAX
  have BX := hide (hX.wide (S' := R.S) (fun i e => Or.inl e))
  clear hb hX hAX
  have hO := h.out
  rw [ho] at hO
  obtain ⟨b, y, eo, ey, hB, hyo⟩ := hO.some_
  have hbg := h.ne.2 b y eo
  rw [eo] at c7
  simp only [outV] at c7
  have d1 : w.cell? ⟨b, 1, none⟩ = some (.int .i64 x.u) := by rw [← ey]; exact hB.cell 1
  have q : (x.u != u) = true := ne_bne hu
  clear h hO hB hyo eo ey hu ho
  go_enter Try.func17, Try.ntmps17
  go_wp2
  go_ret2
  exact RetRCame.none_ AX.out BX.out
theorem rsCame_no (R : RL) (s : MSt) (now u : Int) (x : Wt) (t : Int) (B : Option Addr) (l d : Nat) (xs : List UInt8) (w : World) (h : RsA w R s) (hk : MOk s) (hb : tickBad s now = false) (ho : s.out = some (x, t)) (hu : x.u = u) (hp : ansParseL x.r xs = none) (hr : Rd w B l (bv xs)) (hd : l ≤ d) (hl6 : l ≤ 600) :
    Calls Try.prog 17 #[.pointer (some ⟨R.g, 0, none⟩), .int .i64 now, .int .i64 u, .slice B l d] w (RetRCame R (cameR s now u xs) w) := by
  rw [cameR_no hb ho hu hp]
  obtain ⟨hn0, hn1⟩ := ok_lt hb
  have c3 : w.cell? ⟨R.g, 3, none⟩ = some (.int .i64 s.now) := h.blk.cell 3
  have c7 : w.cell? ⟨R.g, 7, none⟩ = some (outV R.o) := h.blk.cell 7
  have fz := h.blk.frozen
  have hX : But (fun i => i = R.g) w (w.setCell ⟨R.g, 3, none⟩ (.int .i64 now)) := But.setCell w _ rfl
  have hAX : RsA (w.setCell ⟨R.g, 3, none⟩ (.int .i64 now)) R { s with now := now } := h.turnG hX { s with now := now } (h.blk.set 3 _) rfl rfl
  have H := hide h
  have AX := hide hAX
  have BX := hide (hX.wide (S' := R.S) (fun i e => Or.inl e))
  clear hb hX hAX
  have hO := h.out
  rw [ho] at hO
  obtain ⟨b, y, eo, ey, hB, hyo⟩ := hO.some_
  have hbg := h.ne.2 b y eo
  rw [eo] at c7
  simp only [outV] at c7
  subst ey
  obtain ⟨tk, yu, r, V, k⟩ := y
  have hyu : yu = u := hu
  subst hyu
  have hpl : ∀ W, Rd W V r.vs.length (iv r.vs) → Rd W B l (bv xs) → Calls Try.prog 37 #[.agg #[.int .i64 r.f, .int .i64 r.a, .int .i64 r.c, .slice V r.vs.length k, .int .i64 r.t, .int .i64 r.an, .int .i64 r.o], .slice B l d] W (RetAnB ((ansParseL r xs).getD An.none) (ansParseL r xs).isSome W) :=
    fun W h1 h2 => refAnsP_any r.f r.a r.c r.t r.an r.o V B r.vs.length k l d r.vs xs W h1 h2 hd hl6 (hk.omay _ t ho).1.1
  have hpa : ansParseL r xs = none := hp
  rw [hpa] at hpl
  have d1 : w.cell? ⟨b, 1, none⟩ = some (.int .i64 yu) := hB.cell 1
  have d2 : w.cell? ⟨b, 2, none⟩ = some (.int .i64 r.f) := hB.cell 2
  have d3 : w.cell? ⟨b, 3, none⟩ = some (.int .i64 r.a) := hB.cell 3
  have d4 : w.cell? ⟨b, 4, none⟩ = some (.int .i64 r.c) := hB.cell 4
  have d5 : w.cell? ⟨b, 5, none⟩ = some (.slice V r.vs.length k) := hB.cell 5
  have d6 : w.cell? ⟨b, 6, none⟩ = some (.int .i64 r.t) := hB.cell 6
  have d7 : w.cell? ⟨b, 7, none⟩ = some (.int .i64 r.an) := hB.cell 7
  have d8 : w.cell? ⟨b, 8, none⟩ = some (.int .i64 r.o) := hB.cell 8
  have q : (yu != yu) = false := by simp
  have HPL := hide hpl
  have HYO := hide hyo
  have HBB := hide hB
  have EO := hide eo
  have HRB := hide (hr.u8set c3 (by intro x e; cases e) (.int .i64 now))
  have HYX := hide (hyo.but (But.setCell w (.int .i64 now) rfl : But (fun i => i = R.g) w (w.setCell ⟨R.g, 3, none⟩ (.int .i64 now))) (fun b' o' e' h' => h.off hyo b' o' e' (Or.inl h')))
  clear hpl hO hB hyo eo hu hp hpa hr hd hk h ho
  go_enter Try.func17, Try.ntmps17
  go_wp2_with fail
  refine (HPL.out _ HYX.out.is HRB.out).mono ?_
  rintro e w2 ⟨C, m, ck, rfl, lC, rC, b2⟩
  have B2 := hide b2
  clear b2 rC d1 d2 d3 d4 d5 d6 d7 d8 c7 fz c3
  go_wp2
  go_ret2
  exact RetRCame.none_ (AX.out.keep (below_on B2.out ((Below.refl _ _).alloc (Nat.le_refl _) _))) (BX.out.on (below_on B2.out ((Below.refl _ _).alloc (Nat.le_refl _) _)))
set_option maxRecDepth 100000 in
set_option maxHeartbeats 2000000 in
theorem rsCame_yes (R : RL) (s : MSt) (now u : Int) (x : Wt) (t : Int) (an : An) (B : Option Addr) (l d : Nat) (xs : List UInt8) (w : World) (h : RsA w R s) (hk : MOk s) (hb : tickBad s now = false) (ho : s.out = some (x, t)) (hu : x.u = u) (hp : ansParseL x.r xs = some an) (hr : Rd w B l (bv xs)) (hd : l ≤ d) (hl6 : l ≤ 600) :
    Calls Try.prog 17 #[.pointer (some ⟨R.g, 0, none⟩), .int .i64 now, .int .i64 u, .slice B l d] w (RetRCame R (cameR s now u xs) w) := by
  rw [cameR_yes hb ho hu hp]
  obtain ⟨hn0, hn1⟩ := ok_lt hb
  have c3 : w.cell? ⟨R.g, 3, none⟩ = some (.int .i64 s.now) := h.blk.cell 3
  have c7 : w.cell? ⟨R.g, 7, none⟩ = some (outV R.o) := h.blk.cell 7
  have fz := h.blk.frozen
  have hX : But (fun i => i = R.g) w (w.setCell ⟨R.g, 3, none⟩ (.int .i64 now)) := But.setCell w _ rfl
  have hAX : RsA (w.setCell ⟨R.g, 3, none⟩ (.int .i64 now)) R { s with now := now } := h.turnG hX { s with now := now } (h.blk.set 3 _) rfl rfl
  have H := hide h
  have AX := hide hAX
  have BX := hide (hX.wide (S' := R.S) (fun i e => Or.inl e))
  clear hb hX hAX
  have hO := h.out
  rw [ho] at hO
  obtain ⟨b, y, eo, ey, hB, hyo⟩ := hO.some_
  have hbg := h.ne.2 b y eo
  rw [eo] at c7
  simp only [outV] at c7
  subst ey
  obtain ⟨tk, yu, r, V, k⟩ := y
  have hyu : yu = u := hu
  subst hyu
  have hpl : ∀ W, Rd W V r.vs.length (iv r.vs) → Rd W B l (bv xs) → Calls Try.prog 37 #[.agg #[.int .i64 r.f, .int .i64 r.a, .int .i64 r.c, .slice V r.vs.length k, .int .i64 r.t, .int .i64 r.an, .int .i64 r.o], .slice B l d] W (RetAnB ((ansParseL r xs).getD An.none) (ansParseL r xs).isSome W) :=
    fun W h1 h2 => refAnsP_any r.f r.a r.c r.t r.an r.o V B r.vs.length k l d r.vs xs W h1 h2 hd hl6 (hk.omay _ t ho).1.1
  have hpa : ansParseL r xs = (some an) := hp
  rw [hpa] at hpl
  have d1 : w.cell? ⟨b, 1, none⟩ = some (.int .i64 yu) := hB.cell 1
  have d2 : w.cell? ⟨b, 2, none⟩ = some (.int .i64 r.f) := hB.cell 2
  have d3 : w.cell? ⟨b, 3, none⟩ = some (.int .i64 r.a) := hB.cell 3
  have d4 : w.cell? ⟨b, 4, none⟩ = some (.int .i64 r.c) := hB.cell 4
  have d5 : w.cell? ⟨b, 5, none⟩ = some (.slice V r.vs.length k) := hB.cell 5
  have d6 : w.cell? ⟨b, 6, none⟩ = some (.int .i64 r.t) := hB.cell 6
  have d7 : w.cell? ⟨b, 7, none⟩ = some (.int .i64 r.an) := hB.cell 7
  have d8 : w.cell? ⟨b, 8, none⟩ = some (.int .i64 r.o) := hB.cell 8
  have q : (yu != yu) = false := by simp
  have HPL := hide hpl
  have HYO := hide hyo
  have HBB := hide hB
  have EO := hide eo
  have HRB := hide (hr.u8set c3 (by intro x e; cases e) (.int .i64 now))
  have HYX := hide (hyo.but (But.setCell w (.int .i64 now) rfl : But (fun i => i = R.g) w (w.setCell ⟨R.g, 3, none⟩ (.int .i64 now))) (fun b' o' e' h' => h.off hyo b' o' e' (Or.inl h')))
  clear hpl hO hB hyo eo hu hp hpa hr hd hk h ho
  go_enter Try.func17, Try.ntmps17
  go_wp2_with fail
  refine (HPL.out _ HYX.out.is HRB.out).mono ?_
  rintro e w2 ⟨C, m, ck, rfl, lC, rC, b2⟩
  obtain rfl : m = an.us.length := by
    have := rC.1
    rw [iv_length] at this
    exact this.symm
  have B2 := hide b2
  have RC := hide rC
  have HBX := hide ((HBB.out.but (But.setCell w (.int .i64 now) rfl : But (fun i => i = R.g) w (w.setCell ⟨R.g, 3, none⟩ (.int .i64 now))) hbg).keep b2)
  have A2 := hide (AX.out.keep b2)
  clear b2 rC d1 d2 d3 d4 d5 d6 d7 d8 c7 fz c3
  go_wp2_with fail
  generalize hY : w2.alloc _ = Y
  obtain ⟨zY, bY⟩ := box1 w2 61 [.slice C an.us.length ck, .int .i64 an.code] Y hY.symm
  have AY := hide (A2.out.keep bY)
  have RY := hide (RC.out.keep bY)
  have hBY := HBX.out.keep bY
  have hgY : R.g < Y.heap.size := AY.out.blk.lt
  have c7 : Y.cell? ⟨R.g, 7, none⟩ = some (.slice (some ⟨b, 0, none⟩) 1 1) := by
    have := AY.out.blk.cell 7
    rw [this]
    show some (outV R.o) = _
    rw [EO.out]
    rfl
  have d0 : Y.cell? ⟨b, 0, none⟩ = some (.int .i64 (tk : Nat)) := hBY.cell 0
  have z0 : Y.cell? ⟨w2.heap.size, 0, none⟩ = some (.slice C an.us.length ck) := zY.cell 0
  have z1 : Y.cell? ⟨w2.heap.size, 1, none⟩ = some (.int .i64 an.code) := zY.cell 1
  have s0 : R.g < Y.heap.size := AY.out.blk.lt
  have s1 : b < Y.heap.size := hBY.lt
  have s2 : w2.heap.size < Y.heap.size := zY.lt
  have HbY := hide (below_on B2.out bY)
  clear hY zY bY hBY
  have k7 : ∀ w', Below Y.heap.size Y w' → w'.cell? ⟨R.g, 7, none⟩ = some (.slice (some ⟨b, 0, none⟩) 1 1) := fun w' hb => (hb.cell (p := ⟨R.g, 7, none⟩) s0).trans c7
  have k0 : ∀ w', Below Y.heap.size Y w' → w'.cell? ⟨b, 0, none⟩ = some (.int .i64 (tk : Nat)) := fun w' hb => (hb.cell (p := ⟨b, 0, none⟩) s1).trans d0
  have y0 : ∀ w', Below Y.heap.size Y w' → w'.cell? ⟨w2.heap.size, 0, none⟩ = some (.slice C an.us.length ck) := fun w' hb => (hb.cell (p := ⟨w2.heap.size, 0, none⟩) s2).trans z0
  have y1 : ∀ w', Below Y.heap.size Y w' → w'.cell? ⟨w2.heap.size, 1, none⟩ = some (.int .i64 an.code) := fun w' hb => (hb.cell (p := ⟨w2.heap.size, 1, none⟩) s2).trans z1
  refine wp_region_held_drew (S := fun w' => Below Y.heap.size Y w') (by kernel_rfl) ?_ (fun hHeld => ?_)
  · exact (Below.refl _ _).drew
  refine wpAnyH_take (i := 0) (oi := { dst := some 60, op := _, type := _, pos := _, after := _, guard := _ }) (v := ?v1x1) rfl (by kernel_rfl) (by kernel_rfl) (by kernel_rfl) (fun _ _ _ h => h) (Or.inl ⟨by rfl, ?hy1x1⟩) hHeld ?rest1x1
  case hy1x1 => (intro w hSw; go_simp <;> with_reducible rfl)
  try simp only [Act.put, List.setIfInBounds_toArray, List.set_cons_zero, List.set_cons_succ]
  refine wpAnyH_take (i := 1) (oi := { dst := some 61, op := _, type := _, pos := _, after := _, guard := _ }) (v := ?v1x2) rfl (by kernel_rfl) (by kernel_rfl) (by kernel_rfl) (fun _ _ _ h => h) (Or.inl ⟨by rfl, ?hy1x2⟩) hHeld ?rest1x2
  case hy1x2 => (intro w hSw; go_simp <;> with_reducible rfl)
  try simp only [Act.put, List.setIfInBounds_toArray, List.set_cons_zero, List.set_cons_succ]
  refine wpAnyH_take (i := 2) (oi := { dst := some 62, op := _, type := _, pos := _, after := _, guard := _ }) (v := ?v1x3) rfl (by kernel_rfl) (by kernel_rfl) (by kernel_rfl) (fun _ _ _ h => h) (Or.inl ⟨by rfl, ?hy1x3⟩) hHeld ?rest1x3
  case hy1x3 => (intro w hSw; go_simp <;> with_reducible rfl)
  try simp only [Act.put, List.setIfInBounds_toArray, List.set_cons_zero, List.set_cons_succ]
  refine wpAnyH_take (i := 3) (oi := { dst := some 63, op := _, type := _, pos := _, after := _, guard := _ }) (v := ?v1x4) rfl (by kernel_rfl) (by kernel_rfl) (by kernel_rfl) (fun _ _ _ h => h) (Or.inl ⟨by rfl, ?hy1x4⟩) hHeld ?rest1x4
  case hy1x4 => (intro w hSw; go_simp <;> with_reducible rfl)
  try simp only [Act.put, List.setIfInBounds_toArray, List.set_cons_zero, List.set_cons_succ]
  refine wpAnyH_take (i := 4) (oi := { dst := some 64, op := _, type := _, pos := _, after := _, guard := _ }) (v := ?v1x5) rfl (by kernel_rfl) (by kernel_rfl) (by kernel_rfl) (fun _ _ _ h => h) (Or.inl ⟨by rfl, ?hy1x5⟩) hHeld ?rest1x5
  case hy1x5 => (intro w hSw; go_simp <;> with_reducible rfl)
  try simp only [Act.put, List.setIfInBounds_toArray, List.set_cons_zero, List.set_cons_succ]
  refine wpAnyH_take (i := 5) (oi := { dst := some 65, op := _, type := _, pos := _, after := _, guard := _ }) (v := ?v1x6) rfl (by kernel_rfl) (by kernel_rfl) (by kernel_rfl) (fun _ _ _ h => h) (Or.inl ⟨by rfl, ?hy1x6⟩) hHeld ?rest1x6
  case hy1x6 => (intro w hSw; go_simp <;> with_reducible rfl)
  try simp only [Act.put, List.setIfInBounds_toArray, List.set_cons_zero, List.set_cons_succ]
  refine wpAnyH_take (i := 6) (oi := { dst := some 66, op := _, type := _, pos := _, after := _, guard := _ }) (v := ?v1x7) rfl (by kernel_rfl) (by kernel_rfl) (by kernel_rfl) (fun _ _ _ h => h) (Or.inl ⟨by rfl, ?hy1x7⟩) hHeld ?rest1x7
  case hy1x7 => (intro w hSw; go_simp <;> with_reducible rfl)
  try simp only [Act.put, List.setIfInBounds_toArray, List.set_cons_zero, List.set_cons_succ]
  refine wpAnyH_take (i := 7) (oi := { dst := some 67, op := _, type := _, pos := _, after := _, guard := _ }) (v := ?v1x8) rfl (by kernel_rfl) (by kernel_rfl) (by kernel_rfl) (fun _ _ _ h => h) (Or.inl ⟨by rfl, ?hy1x8⟩) hHeld ?rest1x8
  case hy1x8 => (intro w hSw; go_simp <;> with_reducible rfl)
  try simp only [Act.put, List.setIfInBounds_toArray, List.set_cons_zero, List.set_cons_succ]
  refine wpAnyH_take (i := 8) (oi := { dst := some 68, op := _, type := _, pos := _, after := _, guard := _ }) (v := ?v1x9) rfl (by kernel_rfl) (by kernel_rfl) (by kernel_rfl) (fun _ _ _ h => h) (Or.inl ⟨by rfl, ?hy1x9⟩) hHeld ?rest1x9
  case hy1x9 => (intro w hSw; go_simp <;> with_reducible rfl)
  try simp only [Act.put, List.setIfInBounds_toArray, List.set_cons_zero, List.set_cons_succ]
  refine wpAnyH_take (i := 9) (oi := { dst := some 69, op := _, type := _, pos := _, after := _, guard := _ }) (v := ?v1x10) rfl (by kernel_rfl) (by kernel_rfl) (by kernel_rfl) (fun _ _ _ h => h) (Or.inl ⟨by rfl, ?hy1x10⟩) hHeld ?rest1x10
  case hy1x10 => (intro w hSw; go_simp <;> with_reducible rfl)
  try simp only [Act.put, List.setIfInBounds_toArray, List.set_cons_zero, List.set_cons_succ]
  refine wpAnyH_ready (rs := [10]) (by kernel_rfl) (by simp) (AllReadyH.cons (o := { dst := some 12, op := _, type := _, pos := _, after := _, guard := _ }) rfl (fun K hK => ?_) AllReadyH.nil)
  go_simp
  go_wp2_with fail
  refine hK.out _ _ ?_ (fun hHeld => ?_)
  · exact hHeld.alloc (Nat.le_refl _) _
  clear hK K
  try simp only [Act.put, List.setIfInBounds_toArray, List.set_cons_zero, List.set_cons_succ]
  refine wpAnyH_ready (rs := [11]) (by kernel_rfl) (by simp) (AllReadyH.cons (o := { dst := none, op := _, type := _, pos := _, after := _, guard := _ }) rfl (fun K hK => ?_) AllReadyH.nil)
  go_simp
  go_wp2_with fail
  refine hK.out _ _ ?_ (fun hHeld => ?_)
  · exact ((Below.refl _ _).alloc (Nat.le_refl _) _).drew
  clear hK K
  try simp only [Act.put, List.setIfInBounds_toArray, List.set_cons_zero, List.set_cons_succ]
  refine wpAnyH_done (by kernel_rfl) ?_ _
  generalize hZ : (Y.alloc _).drew = Zw
  have zZ : Blk Zw Y.heap.size 63 [.int .i64 (tk : Nat), .slice C an.us.length ck, .int .i64 an.code, .bool false] := by
    rw [← hZ]
    exact Blk.new Y 63 [.int .i64 (tk : Nat), .slice C an.us.length ck, .int .i64 an.code, .bool false]
  have bZ : Below Y.heap.size Y Zw := by rw [← hZ]; exact ((Below.refl _ _).alloc (Nat.le_refl _) _).drew
  have AZ := hide (AY.out.keep bZ)
  have RZ := hide (RY.out.keep bZ)
  have HbZ := hide (below_on HbY.out bZ)
  have hzn : Y.heap.size ≠ R.g := zZ.ne AZ.out.blk (by decide)
  have e0 : Zw.cell? ⟨Y.heap.size, 0, none⟩ = some (.int .i64 (tk : Nat)) := zZ.cell 0
  have e1 : Zw.cell? ⟨Y.heap.size, 1, none⟩ = some (.slice C an.us.length ck) := zZ.cell 1
  have e2 : Zw.cell? ⟨Y.heap.size, 2, none⟩ = some (.int .i64 an.code) := zZ.cell 2
  have e3 : Zw.cell? ⟨Y.heap.size, 3, none⟩ = some (.bool false) := zZ.cell 3
  have e7 : Zw.cell? ⟨R.g, 7, none⟩ = some (outV R.o) := AZ.out.blk.cell 7
  have fz := AZ.out.blk.frozen
  clear hHeld k7 k0 y0 y1 c7 d0 z0 z1 hZ zZ bZ
  go_wp2_with fail
  have hU : But (fun i => i = R.g) Zw (Zw.setCell ⟨R.g, 7, none⟩ (.slice none 0 0)) := But.setCell Zw _ rfl
  have hG : RsA (Zw.setCell ⟨R.g, 7, none⟩ (.slice none 0 0)) { R with o := none } { s with now := now, out := none } := AZ.out.gone hU (AZ.out.blk.set 7 _)
  have hRC : Rd (Zw.setCell ⟨R.g, 7, none⟩ (.slice none 0 0)) C an.us.length (iv an.us) := RZ.out.slset (by rw [e7, EO.out]; rfl) _
  generalize hV : World.alloc _ _ = V
  obtain ⟨zV, bV⟩ := box1 (Zw.setCell ⟨R.g, 7, none⟩ (.slice none 0 0)) 63 [.int .i64 (tk : Nat), .slice C an.us.length ck, .int .i64 an.code, .bool false] V hV.symm
  go_wp2
  go_ret2
  have hsz : Zw.heap.size = (Zw.setCell ⟨R.g, 7, none⟩ (.slice none 0 0)).heap.size := by simp [World.setCell]
  rw [← hsz] at zV
  have hw1 : But R.S w Zw := BX.out.on HbZ.out
  refine ⟨some ⟨Zw.heap.size, 0, none⟩, 1, [⟨tk, an, false, C, ck⟩], { R with o := none }, rfl, rfl, Or.inr ⟨_, Zw.heap.size, rfl, rfl, rfl, zV, hRC.keep bV⟩, hG.keep bV, rfl, ?_, fun i hi => Or.inl (RL.S_gone hi)⟩
  exact (hw1.trans hU (fun i _ e => Or.inl e)).on bV

theorem rsCame_any (R : RL) (s : MSt) (now u : Int) (B : Option Addr) (l d : Nat) (xs : List UInt8) (w : World) (h : RsA w R s) (hk : MOk s) (hr : Rd w B l (bv xs)) (hd : l ≤ d) (hl6 : l ≤ 600) :
    Calls Try.prog 17 #[.pointer (some ⟨R.g, 0, none⟩), .int .i64 now, .int .i64 u, .slice B l d] w (RetRCame R (cameR s now u xs) w) := by
  cases hb : tickBad s now
  · rcases out_cases s with ho | ⟨x, t, ho⟩
    · exact rsCame_none R s now u B l d xs w h hb ho
    · by_cases hu : x.u = u
      · cases hp : ansParseL x.r xs with
        | none => exact rsCame_no R s now u x t B l d xs w h hk hb ho hu hp hr hd hl6
        | some an => exact rsCame_yes R s now u x t an B l d xs w h hk hb ho hu hp hr hd hl6
      · exact rsCame_unit R s now u x t B l d xs w h hb ho hu
  · exact rsCame_bad R s now u B l d xs w h hb

end Go.Proofs.Ytfpfijggmfeejaa
