/-
  What is proved here: what the index's Drop and Gone return and do. Conditions: texts of at most 65535 bytes; at most a million calls.
-/
import Derived.Test.YtfjafpbmgbnllaaGreatSp3
namespace Go.Proofs.YtfjafpbmgbnllaaGreat
set_option linter.unusedVariables false
set_option linter.unusedSimpArgs false
open Go.RowKit Go.Maps

theorem IIn.any {D : DU} {L : List PE} {c d f : List UInt8} (h : IIn D L d) (hd : d ≠ c) : IIn D (dropP L c f) d := by
  by_cases h0 : f = []
  · subst h0; exact h.gone hd
  · exact h.delOth h0 hd
theorem dr_done {w w' : World} {m : Px} {c f : List UInt8} {G' : List UInt8 → Option Nat} (h : PxA w m) (hB : Blk w' m.B 56 [.map (some m.gw), .map (some m.gf), .int .i64 m.tn]) (hw : ∃ D, OW w' m.gw m.K D ∧ WIn D (dropP m.L c f)) (hF : ∃ D, OF w' m.gf m.K D ∧ FIn D G')
    (hsub : ∀ d g, G' d = some g → m.G d = some g) (hin : ∀ g, G' c = some g → (∃ D, OI w' g m.K D ∧ IIn D (dropP m.L c f) c) ∧ ∃ e ∈ dropP m.L c f, e.c = c) (hout : ∀ d g, d ≠ c → m.G d = some g → G' d = some g ∧ w'.heap[g]? = w.heap[g]?)
    (hno : (∃ e ∈ dropP m.L c f, e.c = c) → ∃ g, G' c = some g) : PxA w' ⟨m.B, m.gw, m.gf, G', dropP m.L c f, m.tn, m.K⟩ := by
  refine ⟨hB, h.ok.drop c f, hw, hF, fun d g hd => ?_, fun e he => ?_, fun d d' g hd hd' => h.inj d d' g (hsub d g hd) (hsub d' g hd'), h.ap⟩
  · obtain ⟨h1, h2, ⟨D, hD, hi⟩, ⟨e, he, hec⟩⟩ := h.im d g (hsub d g hd)
    by_cases hdc : d = c
    · subst hdc
      obtain ⟨h3, h4⟩ := hin g hd
      exact ⟨h1, h2, h3, h4⟩
    · refine ⟨h1, h2, ⟨D, map_same hD (hout d g hdc (hsub d g hd)).2, hi.any hdc⟩, e, List.mem_filter.2 ⟨he, ?_⟩, hec⟩
      unfold keepE PE.se
      have : decide (e.c = c) = false := decide_eq_false (by rw [hec]; exact hdc)
      simp [this]
  · by_cases hdc : e.c = c
    · rw [hdc]
      exact hno ⟨e, he, hdc⟩
    · obtain ⟨g, hg⟩ := h.al e (List.mem_filter.1 he).1
      exact ⟨g, (hout e.c g hdc hg).1⟩
theorem wpList_delete_nil {P : Program} (w : World) {ops : Array Oper} {rest : List Oper} {o : Oper} {a : Act} {Q : Exit → Act → World → Prop} (hg : o.guard = none) (m x : Operand) (t k : TypeId) (hop : o.op = Op.call { callee := Callee.builtin Builtin.delete, args := #[m, x], argTypes := #[t, k] })
    (e : TypeId) (K : Keyed P k) (ht : P.underlying t = some (.map k e)) (hm : a.eval m = .map none) (key : Value) (kl : Lit) (hx : a.eval x = key) (hkey : keyOf P k key = some kl)
    (hK : wpList P ops Q rest (a.put o.dst (.tuple #[])) w) : wpList P ops Q (o :: rest) a w := by
  refine wpList_plain hg fun K' hK' => ?_
  have hrun := Maps.drop_nil (P := P) (w := w) K ht hkey o.type
  unfold Oper.wp
  simp [execOp, hop, resolve, invoke, builtin, hm, hx, hrun, Result.andThen]
  exact hK' _ _ hK
theorem mapTurned_but {w w' : World} {b : Nat} (h : w.mapTurned w' b) : But (fun i => i = b) w w' := But.grown h.grown (fun k e => by injection e with e; exact e.symm)
theorem filterL_ne {f : List UInt8} (h : filterL f = true) : f ≠ [] := by rintro rfl; exact absurd h (by decide)
theorem setG_none {G : List UInt8 → Option Nat} {c : List UInt8} (h : G c = none) : setG G c none = G := by
  funext d
  unfold setG
  by_cases hd : d = c
  · rw [if_pos hd, hd, h]
  · rw [if_neg hd]

theorem fsOf_none {L : List PE} {c : List UInt8} (h : (fsOf L c).length = 0) : ∀ e ∈ L, e.c ≠ c := fun e he x => by
  have h1 := (fsOf_mem L c e.f).2 ((hadP_iff _ _ _).2 ⟨e, he, x, rfl⟩)
  rw [List.length_eq_zero_iff.1 h] at h1
  cases h1
theorem fsOf_some {L : List PE} {c : List UInt8} (h : (fsOf L c).length ≠ 0) : ∃ e ∈ L, e.c = c := by
  obtain ⟨f, hf⟩ := List.exists_mem_of_length_pos (Nat.pos_of_ne_zero h)
  obtain ⟨e, he, hc, _⟩ := (hadP_iff _ _ _).1 ((fsOf_mem L c f).1 hf)
  exact ⟨e, he, hc⟩
/-- What Drop answers. -/
def RetPD (m : Px) (c f : List UInt8) (w : World) (e : Ending) (w' : World) : Prop :=
  if filterL f = true then ∃ m', e = .returned (.tuple #[.bool (hadP m.L c f), .int .i64 0]) ∧ PxA w' m' ∧ m'.B = m.B ∧ m'.L = dropP m.L c f ∧ m'.K = m.K ∧ But m.S w w' ∧ ∀ i, m'.S i → m.S i
  else e = .returned (.tuple #[.bool false, .int .i64 121]) ∧ Below w.heap.size w w'
set_option maxHeartbeats 4000000 in
set_option maxRecDepth 100000 in
theorem pDrop_any (m : Px) (c f : List UInt8) (w : World) (h : PxA w m) (hc : c.length ≤ 65535) (hf : f.length ≤ 65535) (hK : m.K ≤ 1000000) :
    Calls Tryz.prog 8 #[.pointer (some ⟨m.B, 0, none⟩), .string (str c), .string (str f)] w (RetPD m c f w) := by
  have H := hide h
  have hBl := h.blk.lt
  have PF := filter_any f (by omega) w
  clear h
  go_enter Tryz.func8, Tryz.ntmps8
  go_wp2_with fail
  refine PF.mono ?_
  rintro e V ⟨rfl, bV⟩
  have Hbw := hide bV
  have hVs := bV.size
  clear PF bV
  cases hfl : filterL f with
  | false =>
    have Hf := hide hfl
    clear hfl
    have en : errN false 121 = 121 := rfl
    rw [en]
    go_wp2_with fail
    go_ret2
    unfold RetPD
    rw [if_neg (by rw [Hf.out]; simp)]
    exact ⟨rfl, Hbw.out⟩
  | true =>
  have Hf := hide hfl
  have Hf0 := hide (filterL_ne hfl)
  clear hfl
  have en : errN true 121 = 0 := rfl
  rw [en]
  have HR := hide (H.out.keep Hbw.out)
  go_wp2_with fail
  generalize hY : V.alloc _ = Y
  obtain ⟨a, ha, hA, bY, hsY⟩ := boxedS (cs := [.string (str c), .string (str f)]) hY
  rw [ha]
  have bVY : Below V.heap.size V Y := by rw [ha]; exact bY
  have HR := hide (HR.out.keep bVY)
  have Hbw := hide (below_on Hbw.out bVY)
  have HA := hide hA
  have hxa : m.B < a := by omega
  clear hY bY bVY
  obtain ⟨Q, hQ⟩ : ∃ Q, qOf m.L c f = Q := ⟨_, rfl⟩
  obtain ⟨T, hT⟩ : ∃ T, trn m.L c f 0 = T := ⟨_, rfl⟩
  have hl : ∀ W, Sam [m.B, a, m.gw] Y W → (Instr.lookup 53 (.map (some m.gw)) (.agg #[.string (str c), .string (str f)]) true).run Tryz.prog W = .ok (.tuple #[.agg #[.int .i64 Q, .int .i64 T], .bool (hadP m.L c f)]) W := fun W b => by
    obtain ⟨D, hD, hi⟩ := HR.out.wm
    have := look_of (map_same hD (b m.gw (by simp))) hi HR.out.ok hc hf
    rw [hQ, hT] at this
    exact this
  have rA : ∀ W, Sam [m.B, a, m.gw] Y W → W.rangeAt a 0 [.string (str c), .string (str f)] := fun W b => (HA.out.sam b (by simp)).range
  have rB : ∀ W, Sam [m.B, a, m.gw] Y W → W.cell? ⟨m.B, 0, none⟩ = some (.map (some m.gw)) := fun W b => (HR.out.blk.sam b (by simp)).cell 0
  have SL : Hid (∀ i ∈ [m.B, a, m.gw], i < Y.heap.size) := hide (by
    intro i hi
    simp only [List.mem_cons, List.not_mem_nil, or_false] at hi
    rcases hi with rfl | rfl | rfl
    · exact HR.out.blk.lt
    · exact HA.out.lt
    · obtain ⟨D, hD, _⟩ := HR.out.wm; exact hD.lt)
  have hsd : Y.drew.heap.size = Y.heap.size := rfl
  obtain ⟨hd, hhd⟩ : ∃ hd, hadP m.L c f = hd := ⟨_, rfl⟩
  rw [hhd] at hl
  have Hhd := hide hhd
  clear hhd hQ hT
  refine wp_region_held_drew (S := fun w' => Sam [m.B, a, m.gw] Y w') (by kernel_rfl) ?_ (fun hHeld => ?_)
  · exact Sam.drew _ _
  refine wpAnyH_take (i := 0) (oi := { dst := some 23, op := _, type := _, pos := _, after := _, guard := _ }) (v := ?v1x1) rfl (by kernel_rfl) (by kernel_rfl) (by kernel_rfl) (fun _ _ _ h => h) (Or.inl ⟨by rfl, ?hy1x1⟩) hHeld ?rest1x1
  case hy1x1 => (intro w hSw; go_simp <;> with_reducible rfl)
  try simp only [Act.put, List.setIfInBounds_toArray, List.set_cons_zero, List.set_cons_succ]
  refine wpAnyH_take (i := 1) (oi := { dst := some 24, op := _, type := _, pos := _, after := _, guard := _ }) (v := ?v1x2) rfl (by kernel_rfl) (by kernel_rfl) (by kernel_rfl) (fun _ _ _ h => h) (Or.inl ⟨by rfl, ?hy1x2⟩) hHeld ?rest1x2
  case hy1x2 => (intro w hSw; go_simp <;> with_reducible rfl)
  try simp only [Act.put, List.setIfInBounds_toArray, List.set_cons_zero, List.set_cons_succ]
  refine wpAnyH_take (i := 2) (oi := { dst := some 25, op := _, type := _, pos := _, after := _, guard := _ }) (v := ?v1x3) rfl (by kernel_rfl) (by kernel_rfl) (by kernel_rfl) (fun _ _ _ h => h) (Or.inl ⟨by rfl, ?hy1x3⟩) hHeld ?rest1x3
  case hy1x3 => (intro w hSw; go_simp <;> with_reducible rfl)
  try simp only [Act.put, List.setIfInBounds_toArray, List.set_cons_zero, List.set_cons_succ]
  refine wpAnyH_take (i := 3) (oi := { dst := some 26, op := _, type := _, pos := _, after := _, guard := _ }) (v := ?v1x4) rfl (by kernel_rfl) (by kernel_rfl) (by kernel_rfl) (fun _ _ _ h => h) (Or.inl ⟨by rfl, ?hy1x4⟩) hHeld ?rest1x4
  case hy1x4 => (intro w hSw; go_simp <;> with_reducible rfl)
  try simp only [Act.put, List.setIfInBounds_toArray, List.set_cons_zero, List.set_cons_succ]
  refine wpAnyH_take (i := 4) (oi := { dst := some 27, op := _, type := _, pos := _, after := _, guard := _ }) (v := ?v1x5) rfl (by kernel_rfl) (by kernel_rfl) (by kernel_rfl) (fun _ _ _ h => h) (Or.inl ⟨by rfl, ?hy1x5⟩) hHeld ?rest1x5
  case hy1x5 => (intro W hS; refine exec_loadS 59 (.tmp 9) ?_ a 0 [.string (str c), .string (str f)] ?_ (rA W hS) Tryz.underlying59 ?_ ?_; rfl; rfl; rfl; kernel_rfl)
  try simp only [Act.put, List.setIfInBounds_toArray, List.set_cons_zero, List.set_cons_succ]
  refine wpAnyH_take (i := 5) (oi := { dst := some 28, op := _, type := _, pos := _, after := _, guard := _ }) (v := ?v1x6) rfl (by kernel_rfl) (by kernel_rfl) (by kernel_rfl) (fun _ _ _ h => h) (Or.inl ⟨by rfl, ?hy1x6⟩) hHeld ?rest1x6
  case hy1x6 => (intro w hSw; go_simp <;> with_reducible rfl)
  try simp only [Act.put, List.setIfInBounds_toArray, List.set_cons_zero, List.set_cons_succ]
  refine wpAnyH_take (i := 6) (oi := { dst := some 22, op := _, type := _, pos := _, after := _, guard := _ }) (v := ?v1x7) rfl (by kernel_rfl) (by kernel_rfl) (by kernel_rfl) (fun _ _ _ h => h) (Or.inl ⟨by rfl, ?hy1x7⟩) hHeld ?rest1x7
  case hy1x7 => (intro w hSw; go_simp <;> with_reducible rfl)
  try simp only [Act.put, List.setIfInBounds_toArray, List.set_cons_zero, List.set_cons_succ]
  refine wpAnyH_take (i := 7) (oi := { dst := some 29, op := _, type := _, pos := _, after := _, guard := _ }) (v := ?v1x8) rfl (by kernel_rfl) (by kernel_rfl) (by kernel_rfl) (fun _ _ _ h => h) (Or.inl ⟨by rfl, ?hy1x8⟩) hHeld ?rest1x8
  case hy1x8 => (intro w hSw; go_simp <;> with_reducible rfl)
  try simp only [Act.put, List.setIfInBounds_toArray, List.set_cons_zero, List.set_cons_succ]
  refine wpAnyH_take (i := 8) (oi := { dst := some 30, op := _, type := _, pos := _, after := _, guard := _ }) (v := ?v1x9) rfl (by kernel_rfl) (by kernel_rfl) (by kernel_rfl) (fun _ _ _ h => h) (Or.inl ⟨by rfl, ?hy1x9⟩) hHeld ?rest1x9
  case hy1x9 => (intro w hSw; go_simp <;> with_reducible rfl)
  try simp only [Act.put, List.setIfInBounds_toArray, List.set_cons_zero, List.set_cons_succ]
  refine wpAnyH_ready (rs := [9]) (by kernel_rfl) (by simp) (AllReadyH.cons (o := { dst := some 10, op := _, type := _, pos := _, after := _, guard := _ }) rfl (fun K hK => ?_) AllReadyH.nil)
  go_simp
  go_wp2_with fail
  refine hK.out _ _ ?_ (fun hHeld => ?_)
  · exact Sam.below ((Below.refl _ _).alloc (Nat.le_refl _) _).drew SL.out
  clear hK K
  try simp only [Act.put, List.setIfInBounds_toArray, List.set_cons_zero, List.set_cons_succ]
  refine wpAnyH_ready (rs := [10]) (by kernel_rfl) (by simp) (AllReadyH.cons (o := { dst := none, op := _, type := _, pos := _, after := _, guard := _ }) rfl (fun K hK => ?_) AllReadyH.nil)
  go_simp
  go_wp2_with fail
  refine hK.out _ _ ?_ (fun hHeld => ?_)
  · exact Sam.below ((Below.refl _ _).alloc (Nat.le_refl _) _).drew SL.out
  clear hK K
  try simp only [Act.put, List.setIfInBounds_toArray, List.set_cons_zero, List.set_cons_succ]
  refine wpAnyH_take (i := 11) (oi := { dst := some 11, op := _, type := _, pos := _, after := _, guard := _ }) (v := ?v1x12) rfl (by kernel_rfl) (by kernel_rfl) (by kernel_rfl) (fun _ _ _ h => h) (Or.inl ⟨by rfl, ?hy1x12⟩) hHeld ?rest1x12
  case hy1x12 => (intro w hSw; go_simp <;> with_reducible rfl)
  try simp only [Act.put, List.setIfInBounds_toArray, List.set_cons_zero, List.set_cons_succ]
  refine wpAnyH_done (by kernel_rfl) ?_ _
  clear hl rA rB hHeld
  go_wp2_with fail
  generalize hZ : Y.alloc _ = Z
  obtain ⟨t, ht, hT2, bZ, hsZ⟩ := boxedS (cs := [.int .i64 Q, .int .i64 T]) hZ
  have bYZ : Below Y.heap.size Y Z.drew := by rw [ht]; exact bZ.drew
  have HR := hide (HR.out.keep bYZ)
  have Hbw := hide (below_on Hbw.out bYZ)
  have HA := hide (HA.out.keep bYZ)
  clear hZ bZ hT2 bYZ hsZ SL hsd hA ht
  generalize Z.drew = X at *
  obtain ⟨D, hD, hi⟩ := HR.out.wm
  have HD := hide hD
  have HI := hide hi
  have RB : ∀ W, Sam [m.B, a] X W → W.cell? ⟨m.B, 0, none⟩ = some (.map (some m.gw)) := fun W b => (HR.out.blk.sam b (by simp)).cell 0
  have RA : ∀ W, Sam [m.B, a] X W → W.rangeAt a 0 [.string (str c), .string (str f)] := fun W b => (HA.out.sam b (by simp)).range
  have SL2 : Hid (∀ i ∈ [m.B, a], i < X.heap.size ∧ i ≠ m.gw) := hide (by
    intro i hi
    simp only [List.mem_cons, List.not_mem_nil, or_false] at hi
    rcases hi with rfl | rfl
    · exact ⟨HR.out.blk.lt, map_ne hD HR.out.blk⟩
    · exact ⟨HA.out.lt, map_ne hD HA.out⟩)
  clear hD hi
  refine wp_region_held_drew (S := fun w' => Sam [m.B, a] X w') (by kernel_rfl) ?_ (fun hHeld => ?_)
  · exact Sam.drew _ _
  refine wpAnyH_take (i := 0) (oi := { dst := some 31, op := _, type := _, pos := _, after := _, guard := _ }) (v := ?v2x1) rfl (by kernel_rfl) (by kernel_rfl) (by kernel_rfl) (fun _ _ _ h => h) (Or.inl ⟨by rfl, ?hy2x1⟩) hHeld ?rest2x1
  case hy2x1 => (intro w hSw; go_simp <;> with_reducible rfl)
  try simp only [Act.put, List.setIfInBounds_toArray, List.set_cons_zero, List.set_cons_succ]
  refine wpAnyH_take (i := 1) (oi := { dst := some 32, op := _, type := _, pos := _, after := _, guard := _ }) (v := ?v2x2) rfl (by kernel_rfl) (by kernel_rfl) (by kernel_rfl) (fun _ _ _ h => h) (Or.inl ⟨by rfl, ?hy2x2⟩) hHeld ?rest2x2
  case hy2x2 => (intro w hSw; go_simp <;> with_reducible rfl)
  try simp only [Act.put, List.setIfInBounds_toArray, List.set_cons_zero, List.set_cons_succ]
  refine wpAnyH_take (i := 2) (oi := { dst := some 33, op := _, type := _, pos := _, after := _, guard := _ }) (v := ?v2x3) rfl (by kernel_rfl) (by kernel_rfl) (by kernel_rfl) (fun _ _ _ h => h) (Or.inl ⟨by rfl, ?hy2x3⟩) hHeld ?rest2x3
  case hy2x3 => (intro w hSw; go_simp <;> with_reducible rfl)
  try simp only [Act.put, List.setIfInBounds_toArray, List.set_cons_zero, List.set_cons_succ]
  refine wpAnyH_take (i := 3) (oi := { dst := some 34, op := _, type := _, pos := _, after := _, guard := _ }) (v := ?v2x4) rfl (by kernel_rfl) (by kernel_rfl) (by kernel_rfl) (fun _ _ _ h => h) (Or.inl ⟨by rfl, ?hy2x4⟩) hHeld ?rest2x4
  case hy2x4 => (intro w hSw; go_simp <;> with_reducible rfl)
  try simp only [Act.put, List.setIfInBounds_toArray, List.set_cons_zero, List.set_cons_succ]
  refine wpAnyH_take (i := 4) (oi := { dst := some 35, op := _, type := _, pos := _, after := _, guard := _ }) (v := ?v2x5) rfl (by kernel_rfl) (by kernel_rfl) (by kernel_rfl) (fun _ _ _ h => h) (Or.inl ⟨by rfl, ?hy2x5⟩) hHeld ?rest2x5
  case hy2x5 => (intro W hS; refine exec_loadS 59 (.tmp 9) ?_ a 0 [.string (str c), .string (str f)] ?_ (RA W hS) Tryz.underlying59 ?_ ?_; rfl; rfl; rfl; kernel_rfl)
  try simp only [Act.put, List.setIfInBounds_toArray, List.set_cons_zero, List.set_cons_succ]
  refine wpAnyH_ready (rs := [5]) (by kernel_rfl) (by simp) (AllReadyH.cons (o := { dst := none, op := _, type := _, pos := _, after := _, guard := _ }) rfl (fun K hK => ?_) AllReadyH.nil)
  rw [if_pos (by rfl)]
  refine op_delete (.tmp 34) (.tmp 35) 53 59 rfl 61 mk_keyed Tryz.underlying53 RW m.gw m.K D (by rfl) (show X.drew.ownsMap Tryz.prog 59 RW m.gw m.K D from HD.out) (mkV c f) (mkL c f) (by rfl) (mk_key' c f hc hf) ?_
  intro X8 hu8 hg8
  have HU8 := hide hu8
  have HG8 := hide (mapTurned_but hg8)
  have HG9 := hide hg8.grown
  clear hu8 hg8
  refine hK.out _ _ ?_ (fun hHeld => ?_)
  · exact (Sam.drew _ _).grown HG9.out SL2.out
  clear hK K
  try simp only [Act.put, List.setIfInBounds_toArray, List.set_cons_zero, List.set_cons_succ]
  refine wpAnyH_done (by kernel_rfl) ?_ _
  clear RA RB hHeld
  have e8 : ∀ i, i < X.heap.size → i ≠ m.gw → X8.heap[i]? = X.heap[i]? := fun i hi hne => HG8.out.block i hi hne
  have hB8 : Blk X8 m.B 56 [.map (some m.gw), .map (some m.gf), .int .i64 m.tn] := (e8 m.B HR.out.blk.lt HR.out.ne_w).trans HR.out.blk
  obtain ⟨DF, hF, hFI⟩ := HR.out.fm
  have hF8 : OF X8 m.gf m.K DF := map_same hF (e8 m.gf hF.lt (fun e => HR.out.ap e.symm))
  have HB8 := hide hB8
  have HF8 := hide hF8
  have HFI := hide hFI
  have E8 := hide e8
  have HW8 : Hid (But m.S w X8) := hide ((But.ofBelow (Below.drew Hbw.out) _).trans HG8.out (fun i _ e => Or.inr (Or.inl e)))
  have HWI : Hid (WIn (D.del (mkL c f)) (dropP m.L c f)) := hide (HI.out.drop H.out.ok hc hf Hf0.out)
  have k1 : X8.cell? ⟨m.B, 1, none⟩ = some (.map (some m.gf)) := hB8.cell 1
  have hl8 : (Instr.lookup 54 (.map (some m.gf)) (.string (str c)) false).run Tryz.prog X8 = .ok (.map (m.G c)) X8 := lookF_of hF8 hFI hc
  have hkf := st_key f hf
  have hkc := st_key c hc
  clear hB8 hF hFI hF8 e8 hVs
  cases hg : m.G c with
  | none =>
    rw [hg] at hl8
    have HGc := hide hg
    clear hg
    go_wp2_with (first
      | (at_delete; refine wpList_delete_nil _ rfl (.tmp 41) (.tmp 42) 66 9 rfl 80 st_keyed Tryz.underlying66 rfl _ _ rfl hkf ?_)
      | (at_delete; refine wpList_delete_own _ rfl (.tmp 54) (.tmp 55) 54 9 rfl 66 st_keyed Tryz.underlying54 RM m.gf m.K DF rfl HF8.out _ _ rfl hkc ?_; intro w9 hF9 ht9))
    go_ret2
    have hb9 := mapTurned_but ht9
    unfold RetPD
    rw [if_pos Hf.out, Hhd.out]
    refine ⟨⟨m.B, m.gw, m.gf, m.G, dropP m.L c f, m.tn, m.K⟩, rfl, dr_done H.out (HB8.out.but hb9 H.out.ne_f) ⟨_, map_same HU8.out (hb9.block m.gw HU8.out.lt H.out.ap), HWI.out⟩ ⟨_, hF9, by have := HFI.out.del c; rwa [setG_none HGc.out] at this⟩ (fun _ _ h => h) (fun g h => by rw [HGc.out] at h; cases h) (fun d g hd hg => ⟨hg, ?_⟩) ?_, rfl, rfl, rfl, HW8.out.trans hb9 (fun i _ e => Or.inr (Or.inr (Or.inl e))), fun i h => h⟩
    · obtain ⟨h1, h2, _⟩ := H.out.im d g hg
      have hlt := H.out.lt (Or.inr (Or.inr (Or.inr ⟨d, hg⟩)))
      rw [hb9.block g (Nat.lt_of_lt_of_le hlt HW8.out.size) h2, E8.out g (Nat.lt_of_lt_of_le hlt Hbw.out.size) h1]
      exact Hbw.out.block g hlt
    · rintro ⟨e, he, hec⟩
      obtain ⟨g, hg⟩ := H.out.al e (List.mem_filter.1 he).1
      rw [hec] at hg
      exact ⟨g, hg⟩
  | some g =>
    rw [hg] at hl8
    have HGc := hide hg
    obtain ⟨g1, g2, ⟨DI, hI, hI2⟩, _⟩ := HR.out.im c g hg
    have hI8 : OI X8 g m.K DI := map_same hI (E8.out g hI.lt g1)
    have HI8 := hide hI8
    have HI2 := hide hI2
    have HG1 := hide (And.intro g1 g2)
    clear hg g1 g2 hI hI2 hI8
    go_upto_region 10 with (at_delete; refine wpList_delete_own _ rfl (.tmp 41) (.tmp 42) 66 9 rfl 80 st_keyed Tryz.underlying66 unitElem g m.K DI rfl HI8.out _ _ rfl hkf ?_; intro w9 hI9 ht9)
    have hb9 := mapTurned_but ht9
    have hB9 := HB8.out.but hb9 (H.out.ne_i HGc.out)
    have hF9 : OF w9 m.gf m.K DF := map_same HF8.out (hb9.block m.gf HF8.out.lt (fun e => HG1.out.2 e.symm))
    have hU9 : OW w9 m.gw m.K (D.del (mkL c f)) := map_same HU8.out (hb9.block m.gw HU8.out.lt (fun e => HG1.out.1 e.symm))
    have hII : IIn (DI.del (.string f)) (dropP m.L c f) c := HI2.out.del Hf0.out
    have hsz := hII.size hI9 (H.out.ok.drop c f)
    obtain ⟨N9, hN9⟩ : ∃ N9, Maps.size (DI.del (.string f)) = N9 := ⟨_, rfl⟩
    rw [hN9] at hsz
    have HB9 := hide hB9
    have HF9 := hide hF9
    have HU9 := hide hU9
    have HI9 := hide hI9
    have HII := hide hII
    have HN9 := hide hsz
    have Hb9 := hide hb9
    have HW9 : Hid (But m.S w w9) := hide (HW8.out.trans hb9 (fun i _ e => Or.inr (Or.inr (Or.inr ⟨c, by rw [HGc.out]; exact congrArg some (show g = i from Eq.symm e)⟩))))
    have k2 : w9.cell? ⟨m.B, 1, none⟩ = some (.map (some m.gf)) := hB9.cell 1
    have hl9 : (Instr.lookup 54 (.map (some m.gf)) (.string (str c)) false).run Tryz.prog w9 = .ok (.map (some g)) w9 := by
      have := lookF_of hF9 HFI.out hc
      rwa [HGc.out] at this
    clear hb9 hB9 hF9 hU9 hII hsz hI9 ht9 k1 hl8
    by_cases h0 : N9 = 0
    · subst h0
      go_wp2_with (first
        | (at_len; refine wpList_len_own _ rfl _ 66 rfl 9 80 Tryz.underlying66 unitElem g m.K (DI.del (.string f)) rfl HI9.out ?_; rw [hN9])
        | (at_delete; refine wpList_delete_own _ rfl (.tmp 54) (.tmp 55) 54 9 rfl 66 st_keyed Tryz.underlying54 RM m.gf m.K DF rfl HF9.out _ _ rfl hkc ?_; intro w10 hF10 ht10))
      go_ret2
      have hb10 := mapTurned_but ht10
      unfold RetPD
      rw [if_pos Hf.out, Hhd.out]
      have hnone := fsOf_none HN9.out.symm
      refine ⟨⟨m.B, m.gw, m.gf, setG m.G c none, dropP m.L c f, m.tn, m.K⟩, rfl, dr_done H.out (HB9.out.but hb10 H.out.ne_f) ⟨_, map_same HU9.out (hb10.block m.gw HU9.out.lt H.out.ap), HWI.out⟩ ⟨_, hF10, HFI.out.del c⟩ (fun d g' h => ?_) (fun g' h => ?_) (fun d g' hd hg => ?_) ?_, rfl, rfl, rfl, HW9.out.trans hb10 (fun i _ e => Or.inr (Or.inr (Or.inl e))), ?_⟩
      · unfold setG at h
        by_cases hd : d = c
        · rw [if_pos hd] at h; cases h
        · rwa [if_neg hd] at h
      · unfold setG at h
        rw [if_pos rfl] at h
        cases h
      · refine ⟨by unfold setG; rw [if_neg hd]; exact hg, ?_⟩
        obtain ⟨h1, h2, _⟩ := H.out.im d g' hg
        have hlt := H.out.lt (Or.inr (Or.inr (Or.inr ⟨d, hg⟩)))
        have h7 : w9.heap[g']? = w.heap[g']? := by
          rw [Hb9.out.block g' (Nat.lt_of_lt_of_le hlt HW8.out.size) (fun e => hd (H.out.inj d c g' hg (by rw [HGc.out]; exact congrArg some (Eq.symm e)))), E8.out g' (Nat.lt_of_lt_of_le hlt Hbw.out.size) h1]
          exact Hbw.out.block g' hlt
        rw [hb10.block g' (Nat.lt_of_lt_of_le hlt HW9.out.size) h2]
        exact h7
      · rintro ⟨e, he, hec⟩
        exact absurd hec (hnone e he)
      · rintro i (h | h | h | ⟨d, h⟩)
        · exact Or.inl h
        · exact Or.inr (Or.inl h)
        · exact Or.inr (Or.inr (Or.inl h))
        · have h' : setG m.G c none d = some i := h
          unfold setG at h'
          by_cases hd : d = c
          · rw [if_pos hd] at h'; cases h'
          · rw [if_neg hd] at h'
            exact Or.inr (Or.inr (Or.inr ⟨d, h'⟩))
    · have q0 : ((N9 : Int) == 0) = false := by rw [beq_eq_false_iff_ne]; omega
      go_wp2_with (at_len; refine wpList_len_own _ rfl _ 66 rfl 9 80 Tryz.underlying66 unitElem g m.K (DI.del (.string f)) rfl HI9.out ?_; rw [hN9])
      go_ret2
      unfold RetPD
      rw [if_pos Hf.out, Hhd.out]
      have hsome := fsOf_some (by rw [← HN9.out]; exact h0)
      refine ⟨⟨m.B, m.gw, m.gf, m.G, dropP m.L c f, m.tn, m.K⟩, rfl, dr_done H.out HB9.out ⟨_, HU9.out, HWI.out⟩ ⟨_, HF9.out, HFI.out⟩ (fun _ _ h => h) (fun g' h => ?_) (fun d g' hd hg => ⟨hg, ?_⟩) (fun _ => ⟨g, HGc.out⟩), rfl, rfl, rfl, HW9.out, fun i h => h⟩
      · rw [HGc.out] at h
        injection h with h
        subst h
        exact ⟨⟨_, HI9.out, HII.out⟩, hsome⟩
      ·
        obtain ⟨h1, h2, _⟩ := H.out.im d g' hg
        have hlt := H.out.lt (Or.inr (Or.inr (Or.inr ⟨d, hg⟩)))
        have h7 : w9.heap[g']? = w.heap[g']? := by
          rw [Hb9.out.block g' (Nat.lt_of_lt_of_le hlt HW8.out.size) (fun e => hd (H.out.inj d c g' hg (by rw [HGc.out]; exact congrArg some (Eq.symm e)))), E8.out g' (Nat.lt_of_lt_of_le hlt Hbw.out.size) h1]
          exact Hbw.out.block g' hlt
        exact h7
/-- The wants of a client, struck one by one. -/
def GoneW (D D' : DU) (c : List UInt8) (ss : List (List UInt8)) : Prop := ∀ c' f', c'.length ≤ 65535 → f'.length ≤ 65535 → ∀ z, D'.atKey (mkL c' f') z = if c' = c ∧ f' ∈ ss then z else D.atKey (mkL c' f') z
theorem GoneW.start (D : DU) (c : List UInt8) : GoneW D D c [] := fun c' f' _ _ z => by simp
theorem GoneW.step {D D' : DU} {c : List UInt8} {ss : List (List UInt8)} (h : GoneW D D' c ss) {x : List UInt8} (hc : c.length ≤ 65535) (hx : x.length ≤ 65535) : GoneW D (D'.del (mkL c x)) c (ss ++ [x]) := fun c' f' hc' hf' z => by
  by_cases h1 : c' = c ∧ f' = x
  · rw [h1.1, h1.2, atKey_del_same, if_pos ⟨rfl, by simp⟩]
  · rw [atKey_del_other (fun e => h1 (mk_inj' hc' hf' hc hx e)), h c' f' hc' hf' z]
    by_cases h2 : c' = c
    · have h3 : f' ≠ x := fun e => h1 ⟨h2, e⟩
      simp [h2, h3]
    · simp [h2]
theorem GoneW.done {D D' : DU} {L : List PE} {c : List UInt8} {ss : List (List UInt8)} {tn : Int} {K : Nat} (h : GoneW D D' c ss) (hi : WIn D L) (ok : OkP L tn K) (hs : ∀ f, f ∈ ss ↔ hadP L c f = true) : WIn D' (dropP L c []) := by
  refine ⟨fun e he z => ?_, fun c' f' hc' hf' hh z => ?_⟩
  · obtain ⟨h1, h2⟩ := List.mem_filter.1 he
    have hne : e.c ≠ c := fun x => by
      have : keepE c [] e.se = true := h2
      unfold keepE PE.se at this
      simp [x] at this
    rw [h e.c e.f (ok.ok e h1).2.2.1 (ok.ok e h1).2.1 z, if_neg (fun x => hne x.1)]
    exact hi.hit e h1 z
  · rw [hadP_gone, Bool.and_eq_false_iff] at hh
    rw [h c' f' hc' hf' z]
    by_cases h1 : c' = c ∧ f' ∈ ss
    · rw [if_pos h1]
    · rw [if_neg h1]
      refine hi.miss c' f' hc' hf' ?_ z
      rcases hh with hh | hh
      · exact hh
      · have hcc : c' = c := by simpa using hh
        cases hk : hadP L c' f' with
        | false => rfl
        | true =>
          rw [hcc] at hk
          exact absurd ⟨hcc, (hs f').2 hk⟩ h1
theorem fsOf_len (L : List PE) (c : List UInt8) : (fsOf L c).length + (dropP L c []).length = L.length := by
  unfold fsOf dropP
  rw [List.length_map]
  induction L with
  | nil => rfl
  | cons a L ih =>
    by_cases h : a.c = c
    · rw [List.filter_cons_of_pos (by simp [h]), List.filter_cons_of_neg (by unfold keepE PE.se; simp [h])]
      simp only [List.length_cons]
      omega
    · rw [List.filter_cons_of_neg (by simp [h]), List.filter_cons_of_pos (by unfold keepE PE.se; simp [h])]
      simp only [List.length_cons]
      omega
/-- What Gone answers. -/
def RetPG (m : Px) (c : List UInt8) (w : World) (e : Ending) (w' : World) : Prop :=
  ∃ m', e = .returned (.tuple #[.int .i64 ((m.L.length : Int) - ((dropP m.L c []).length : Int)), .int .i64 0]) ∧ PxA w' m' ∧ m'.B = m.B ∧ m'.L = dropP m.L c [] ∧ m'.K = m.K ∧ But m.S w w' ∧ ∀ i, m'.S i → m.S i
theorem str_keyInv (key : Value) (kl : Lit) (h : keyOf Tryz.prog 9 key = some kl) : ∃ x : List UInt8, key = .string (str x) := by
  obtain ⟨x, hx, _⟩ := Maps.keyOf_str Tryz.underlying9 h
  exact ⟨x, hx⟩
theorem unit_inv (v : Value) (y : DU × List MemPlace) (h : unitElem v = some y) : ∃ c : Unit, v = .agg #[] := by
  obtain ⟨h1, _⟩ := unitElem_inv h
  exact ⟨(), h1⟩
set_option maxHeartbeats 4000000 in
set_option maxRecDepth 100000 in
theorem pGone_any (m : Px) (c : List UInt8) (w : World) (h : PxA w m) (hc : c.length ≤ 65535) (hK : m.K ≤ 1000000) :
    Calls Tryz.prog 10 #[.pointer (some ⟨m.B, 0, none⟩), .string (str c)] w (RetPG m c w) := by
  have H := hide h
  have hBl := h.blk.lt
  have k1 : w.cell? ⟨m.B, 1, none⟩ = some (.map (some m.gf)) := h.blk.cell 1
  have hl := h.lookF hc
  have hkc := st_key c hc
  obtain ⟨D, hD, hDI⟩ := h.wm
  obtain ⟨DF, hF, hFI⟩ := h.fm
  have HD := hide hD
  have HDI := hide hDI
  have HF := hide hF
  have HFI := hide hFI
  clear h hD hDI hF hFI
  cases hg : m.G c with
  | none =>
    rw [hg] at hl
    have HGc := hide hg
    have hrn := run_range_nilMap (P := Tryz.prog) w 66 9 80 Tryz.underlying66
    have hnx : ∀ ty, (Instr.next (.pointer (some ⟨w.heap.size, 0, none⟩)) false ty).run Tryz.prog (w.alloc (.mapIter none 0 #[] 0)) = _ := fun ty => run_next_nilMap w ty 0 0 #[]
    clear hg
    go_enter Tryz.func10, Tryz.ntmps10
    go_wp2_with fail
    refine wp_loop_rounds 1 ?_
    rw [rounds_succ]
    have bA : Below w.heap.size w (w.alloc (.mapIter none 0 #[] 0)) := (Below.refl _ _).alloc (Nat.le_refl _) _
    have kA : (w.alloc (.mapIter none 0 #[] 0)).cell? ⟨m.B, 1, none⟩ = some (.map (some m.gf)) := (bA.cell (p := ⟨m.B, 1, none⟩) hBl).trans k1
    have HFA := hide (map_same HF.out (bA.block m.gf HF.out.lt))
    have BA := hide bA
    clear hl k1 hrn bA
    go_wp2_with (at_delete; refine wpList_delete_own _ rfl (.tmp 32) (.tmp 33) 54 9 rfl 66 st_keyed Tryz.underlying54 RM m.gf m.K DF rfl HFA.out _ _ rfl hkc ?_; intro w9 hF9 ht9)
    go_ret2
    have hb9 := mapTurned_but ht9
    have hno : ∀ e ∈ m.L, e.c ≠ c := fun e he x => by
      obtain ⟨g, hg⟩ := H.out.al e he
      rw [x, HGc.out] at hg
      cases hg
    have hf0 : (fsOf m.L c).length = 0 := by
      cases hn : (fsOf m.L c).length with
      | zero => rfl
      | succ n =>
        obtain ⟨e, he, hec⟩ := fsOf_some (L := m.L) (c := c) (by omega)
        exact absurd hec (hno e he)
    have hW9 : But (fun i => i = m.gf) w w9 := (But.ofBelow BA.out _).trans hb9 (fun i _ e => e)
    unfold RetPG
    have hlen := fsOf_len m.L c
    rw [show (m.L.length : Int) - ((dropP m.L c []).length : Int) = 0 by omega]
    refine ⟨⟨m.B, m.gw, m.gf, m.G, dropP m.L c [], m.tn, m.K⟩, rfl, dr_done H.out (H.out.blk.but hW9 H.out.ne_f) ⟨D, map_same HD.out (hW9.block m.gw HD.out.lt H.out.ap), (GoneW.start D c).done HDI.out H.out.ok (fun f => ?_)⟩ ⟨_, hF9, by have := HFI.out.del c; rwa [setG_none HGc.out] at this⟩ (fun _ _ h => h) (fun g h => by rw [HGc.out] at h; cases h) (fun d g hd hg => ⟨hg, ?_⟩) ?_, rfl, rfl, rfl, hW9.wide (fun i e => Or.inr (Or.inr (Or.inl e))), fun i h => h⟩
    · constructor
      · intro h; cases h
      · intro h
        obtain ⟨e, he, hec, _⟩ := (hadP_iff _ _ _).1 h
        exact absurd hec (hno e he)
    · obtain ⟨h1, h2, _⟩ := H.out.im d g hg
      exact hW9.block g (H.out.lt (Or.inr (Or.inr (Or.inr ⟨d, hg⟩)))) h2
    · rintro ⟨e, he, hec⟩
      exact absurd hec (hno e (List.mem_filter.1 he).1)
  | some g =>
    rw [hg] at hl
    have HGc := hide hg
    obtain ⟨g1, g2, ⟨DI, hI, hI2⟩, _⟩ := H.out.im c g hg
    have HI := hide hI
    have HI2 := hide hI2
    have HG1 := hide (And.intro g1 g2)
    clear hg g1 g2 hI hI2
    go_enter Tryz.func10, Tryz.ntmps10
    go_wp2_with (at_range; refine wpList_range_own _ rfl _ 66 rfl 9 80 st_keyed Tryz.underlying66 unitElem g m.K DI rfl HI.out ?_; intro w0 hrg0 hg0 hs0)
    go_frame
    clear hl k1
    go_loopw [7] (fun _ wr => ∃ left cnt ss D', wr.ranges Tryz.prog 9 unitElem g w.heap.size m.K DI left cnt ∧ OW wr m.gw m.K D' ∧ GoneW D D' c ss ∧ Collected DI left ss ∧ But (fun i => i = m.gw) w wr) (fun _ wr => wr.rangeLeft g w.heap.size)
    case atStart =>
      exact ⟨_, _, [], D, hrg0, HD.out.kept hg0 (by simp), GoneW.start D c, Collected.start DI, But.grown hg0 (fun k e => by cases e)⟩
    case round =>
      obtain ⟨left, cnt, ss, D', hrg, hOW, hGW, hC, hbut⟩ := hrel
      have HRg := hide hrg
      have HOW := hide hOW
      have HGW := hide hGW
      have HC := hide hC
      have HBut := hide hbut
      have kr0 : wr.cell? ⟨m.B, 0, none⟩ = some (.map (some m.gw)) := (H.out.blk.but hbut H.out.ne_w).cell 0
      clear hrg hOW hGW hC hbut hrg0 hg0 hs0
      go_wp2_with (at_next; refine wpList_next_ranges _ rfl _ rfl 9 st_keyed unitElem (fun x : List UInt8 => .string (str x)) (fun _ : Unit => .agg #[]) str_keyInv unit_inv g w.heap.size m.K DI left cnt rfl HRg.out ?_ ?_)
      · intro hc0 hl0
        have hperm : ss.Perm (strKeys DI) := HC.out.perm HI.out st_keyed Tryz.underlying9 hl0
        have hmem : Hid (∀ f, f ∈ ss ↔ hadP m.L c f = true) := hide fun f => by
          rw [← fsOf_mem, (HI2.out.keys HI.out H.out.ok).mem_iff, hperm.mem_iff]
        have hsz := HI2.out.size HI.out H.out.ok
        have kr1 : wr.cell? ⟨m.B, 1, none⟩ = some (.map (some m.gf)) := (H.out.blk.but HBut.out H.out.ne_w).cell 1
        have HFr := hide (map_same HF.out (HBut.out.block m.gf HF.out.lt (fun e => H.out.ap e.symm)))
        have HX : Hid (∀ w9, wr.mapTurned w9 m.gf → OI w9 g m.K DI) := hide fun w9 h => map_same HRg.out.owns ((mapTurned_but h).block g HRg.out.owns.lt HG1.out.2)
        obtain ⟨N, hN⟩ : ∃ N, (fsOf m.L c).length = N := ⟨_, rfl⟩
        rw [hN] at hsz
        have HN := hide hN
        clear hc0 hl0 hperm kr0 hN
        go_wp2_with (first
          | (at_delete; refine wpList_delete_own _ rfl (.tmp 32) (.tmp 33) 54 9 rfl 66 st_keyed Tryz.underlying54 RM m.gf m.K DF rfl HFr.out _ _ rfl hkc ?_; intro w9 hF9 ht9)
          | (at_len; refine wpList_len_own _ rfl _ 66 rfl 9 80 Tryz.underlying66 unitElem g m.K DI rfl (HX.out _ ht9) ?_; rw [hsz]))
        go_ret2
        have hb9 := mapTurned_but ht9
        have hW9 : But (fun i => i = m.gw ∨ i = m.gf) w w9 := (HBut.out.wide (fun i e => Or.inl e)).trans hb9 (fun i _ e => Or.inr e)
        unfold RetPG
        have hlen := fsOf_len m.L c
        rw [HN.out] at hlen
        rw [show (m.L.length : Int) - ((dropP m.L c []).length : Int) = (N : Int) by omega]
        refine ⟨⟨m.B, m.gw, m.gf, setG m.G c none, dropP m.L c [], m.tn, m.K⟩, rfl, dr_done H.out (H.out.blk.but hW9 (fun e => e.elim H.out.ne_w H.out.ne_f)) ⟨D', map_same HOW.out (hb9.block m.gw HOW.out.lt H.out.ap), HGW.out.done HDI.out H.out.ok hmem.out⟩ ⟨_, hF9, HFI.out.del c⟩ (fun d g' h => ?_) (fun g' h => ?_) (fun d g' hd hg => ?_) ?_, rfl, rfl, rfl, hW9.wide (fun i e => e.elim (fun e => Or.inr (Or.inl e)) (fun e => Or.inr (Or.inr (Or.inl e)))), ?_⟩
        · unfold setG at h
          by_cases hd : d = c
          · rw [if_pos hd] at h; cases h
          · rwa [if_neg hd] at h
        · unfold setG at h
          rw [if_pos rfl] at h
          cases h
        · refine ⟨by unfold setG; rw [if_neg hd]; exact hg, ?_⟩
          obtain ⟨h1, h2, _⟩ := H.out.im d g' hg
          exact hW9.block g' (H.out.lt (Or.inr (Or.inr (Or.inr ⟨d, hg⟩)))) (fun e => e.elim h1 h2)
        · rintro ⟨e, he, hec⟩
          have h2 := (List.mem_filter.1 he).2
          have h3 : keepE c [] e.se = true := h2
          unfold keepE PE.se at h3
          simp [hec] at h3
        · rintro i (h | h | h | ⟨d, h⟩)
          · exact Or.inl h
          · exact Or.inr (Or.inl h)
          · exact Or.inr (Or.inr (Or.inl h))
          · have h' : setG m.G c none d = some i := h
            unfold setG at h'
            by_cases hd : d = c
            · rw [if_pos hd] at h'; cases h'
            · rw [if_neg hd] at h'
              exact Or.inr (Or.inr (Or.inr ⟨d, h'⟩))
      · intro x u kl y w2 cnt2 hkey hlk hv hat hrg2 hlt hg2 hs2 hen
        obtain ⟨x', ex, rfl, _⟩ := Maps.keyOf_str Tryz.underlying9 hkey
        obtain rfl : x = x' := encStr_inj ex
        have hx : x.length ≤ 65535 := by
          have h1 : has DI (.string x) = true := has_true_of_atKey hat
          rw [HI2.out x] at h1
          obtain ⟨e, he, _, rfl⟩ := (hadP_iff _ _ _).1 h1
          exact (H.out.ok.ok e he).2.1
        have hgl : m.gw < w.heap.size := HD.out.lt
        have HO2 := hide (HOW.out.kept hg2 (by intro e; injection e with e; omega))
        have hb2 : But (fun i => i = m.gw) w w2 := HBut.out.trans (But.grown (S := fun i => i = w.heap.size) hg2 (fun k e => by injection e with e; exact e.symm)) (fun i hi e => by have e' : i = w.heap.size := e; omega)
        have k20 : w2.cell? ⟨m.B, 0, none⟩ = some (.map (some m.gw)) := (H.out.blk.but hb2 H.out.ne_w).cell 0
        have HR2 := hide hrg2
        have HL := hide hlt
        have HB2 := hide hb2
        have HC2 := hide (HC.out.step hlk hat)
        have hkx := mk_key' c x hc hx
        clear hkey hlk hv hat hrg2 hlt hg2 hs2 hb2 kr0 ex
        go_wp2_with (at_delete; refine wpList_delete_own _ rfl (.tmp 25) (.tmp 28) 53 59 rfl 61 mk_keyed Tryz.underlying53 RW m.gw m.K D' rfl HO2.out (mkV c x) (mkL c x) rfl hkx ?_; intro w3 hO3 ht3)
        have hr3 := HR2.out.kept ht3.grown (by intro e; injection e with e; exact HG1.out.1 e) (by intro e; injection e with e; omega)
        simp only [Act.put]
        go_roundw
        case rel => exact ⟨_, cnt2, ss ++ [x], D'.del (mkL c x), hr3, hO3, HGW.out.step hc hx, HC2.out, HB2.out.trans (mapTurned_but ht3) (fun i _ e => e)⟩
        case measure =>
          rw [hr3.left_eq, HRg.out.left_eq]
          exact HL.out
end Go.Proofs.YtfjafpbmgbnllaaGreat
