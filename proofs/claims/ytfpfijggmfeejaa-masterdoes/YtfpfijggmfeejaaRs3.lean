/-
  What is proved here: what the document's own Ask of layer 7 answers, and what becomes of its master. Conditions: Values of at most 10^6; tickets below 10^6.
-/
import Derived.Test.YtfpfijggmfeejaaRs2
namespace Go.Proofs.Ytfpfijggmfeejaa
set_option linter.unusedVariables false
set_option linter.unusedSimpArgs false
open Go.RowKit Go.Maps

theorem asked_info : (Try.prog.info? 53).map (fun i => (i.zero, i.size, i.bytes)) = some (some (.agg #[.int .i64 0, .int .i64 0, .int .i64 0, .int .i64 0, .int .i64 0, .slice none 0 0, .int .i64 0, .int .i64 0, .int .i64 0, .int .i64 0]), 10, 96) := by kernel_rfl
theorem rd_asked (w : World) (y : SM) : Rd (w.alloc (.cells (arr (y.vs ++ [Value.int .i64 0])) 53)) (some ⟨w.heap.size, 0, none⟩) (1 * 10) (avs [y]) := by
  have e : avs [y] = y.vs ++ [Value.int .i64 0] := by show (y.vs ++ [Value.int .i64 0]) ++ [] = _; rw [List.append_nil]
  rw [e]
  exact (Blk.new w 53 (y.vs ++ [Value.int .i64 0])).rd
theorem avs_one (ws : List SM) : ∀ v ∈ avs ws, v.oneCell' = true := by
  intro v hv
  simp only [avs, List.mem_flatMap, List.mem_append] at hv
  obtain ⟨y, _, hv⟩ := hv
  rcases hv with hv | hv
  · simp only [SM.vs, List.mem_cons, List.not_mem_nil, or_false] at hv
    rcases hv with rfl | rfl | rfl | rfl | rfl | rfl | rfl | rfl | rfl <;> rfl
  · simp at hv; subst hv; rfl
/-- What is read while a request is laid behind those that wait. -/
def AskD (g p : Nat) (T : Value) (cs : List Value) (w : World) : Prop := w.cell? ⟨g, 5, none⟩ = some T ∧ Blk w p 37 cs ∧ g < w.heap.size
theorem AskD.keep {g p : Nat} {T : Value} {cs : List Value} {w w' : World} (h : AskD g p T cs w) (b : Below w.heap.size w w') : AskD g p T cs w' := ⟨(b.cell (p := ⟨g, 5, none⟩) h.2.2).trans h.1, h.2.1.keep b, Nat.lt_of_lt_of_le h.2.2 b.size⟩
theorem AskD.but {S : Nat → Prop} {g p : Nat} {T : Value} {cs : List Value} {w w' : World} (h : AskD g p T cs w) (b : But S w w') (hg : ¬ S g) (hp : ¬ S p) : AskD g p T cs w' := ⟨(World.cell?_of_block (w := w) (b.block g h.2.2 hg)).trans h.1, h.2.1.but b hp, Nat.lt_of_lt_of_le h.2.2 b.size⟩
theorem AskD.set6 {g p : Nat} {T : Value} {cs : List Value} {w : World} (h : AskD g p T cs w) (hp : p ≠ g) (v : Value) : AskD g p T cs (w.setCell ⟨g, 6, none⟩ v) := by
  refine ⟨?_, h.2.1.oth hp.symm _ _, by simpa using h.2.2⟩
  have := h.1
  simp [World.cell?_setCell_other, this]

theorem RetRAsk.ok {R : RL} {s : MSt} {u : Int} {r : Rq} {w w1 X w3 : World} {T : Nat} {A3 C : Option Addr} {k3 ck : Nat} (hE : askE s u r = 0) (hT : s.next + 1 = T) (b1 : Below w.heap.size w w1) (bX : But (fun i => i = w.heap.size ∨ i = R.g) w1 X) (hA : RsA X R { s with next := T })
    (b3 : But (fun i => ∃ o, R.A = some ⟨i, o, none⟩) X w3) (hG : Blk w3 R.g 34 (rcs R { s with next := T })) (o3 : w3.ownsRow 0 53 10 (.slice A3 (R.ws.length + 1) k3) (R.ws.length + 1) (avs R.ws ++ avs [⟨T, u, r, C, ck⟩])) (h3 : A3 = R.A ∨ NewAt w A3) (hy : SM.own w3 ⟨T, u, r, C, ck⟩) (h0 : RsA w R s) :
    RetRAsk R s u r w (.returned (.tuple #[.int .i64 (T : Nat), .int .i64 0])) (w3.setCell ⟨R.g, 6, none⟩ (.slice A3 (R.ws.length + 1) k3)) := by
  have hlen : (R.ws ++ [(⟨T, u, r, C, ck⟩ : SM)]).length = R.ws.length + 1 := by simp
  have hY : But (fun i => i = R.g) w3 (w3.setCell ⟨R.g, 6, none⟩ (.slice A3 (R.ws.length + 1) k3)) := But.setCell w3 _ rfl
  have hap : ∀ b o, A3 = some ⟨b, o, none⟩ → b ≠ R.g := fun b o e => own_ne o3 hG (by decide) e
  have hb : But (fun i => i = R.g ∨ ∃ o, R.A = some ⟨i, o, none⟩) X (w3.setCell ⟨R.g, 6, none⟩ (.slice A3 (R.ws.length + 1) k3)) := (b3.wide (fun i e => Or.inr e)).trans hY (fun i _ e => Or.inl e)
  have hM := hA.asked hb A3 k3 ⟨T, u, r, C, ck⟩ (by
    have := hG.set 6 (.slice A3 (R.ws.length + 1) k3)
    have e : rcs { R with A := A3, k := k3, ws := R.ws ++ [(⟨T, u, r, C, ck⟩ : SM)] } { s with next := T } = (rcs R { s with next := T }).set 6 (.slice A3 (R.ws.length + 1) k3) := by
      show [_, _, _, _, _, _, _, _] ++ rests _ = ([_, _, _, _, _, _, _, _] ++ rests _).set 6 _
      simp only [hlen]
      rfl
    rw [e]
    exact this) (by
    rw [hlen, avs_append]
    exact ownS_but o3 hY hap) (hy.but hY (fun b o e h' => own_ne hy hG (by decide) e h')) (by
    rcases h3 with rfl | h3
    · exact hA.ap
    · intro b o y e e'
      have := h0.lt b (Or.inr (Or.inr ⟨y, e'⟩))
      have := h3 b o e
      omega)
  refine ⟨{ R with A := A3, k := k3, ws := R.ws ++ [(⟨T, u, r, C, ck⟩ : SM)] }, ?_, ?_, rfl, ?_, ?_⟩
  · unfold askT
    rw [hE, if_pos rfl, hT]
  · unfold askS
    rw [hE, if_pos rfl, hT]
    exact hM
  · have h1 : But R.S w X := (But.ofBelow b1 R.S).trans bX (fun i hi e => by
      rcases e with e | e
      · omega
      · exact Or.inl e)
    exact h1.trans hb (fun i _ e => e.elim Or.inl (fun e => Or.inr (Or.inl e)))
  · rintro i (h | ⟨o, h⟩ | ⟨y, h⟩)
    · exact Or.inl (Or.inl h)
    · rcases h3 with rfl | h3
      · exact Or.inl (Or.inr (Or.inl ⟨o, h⟩))
      · exact Or.inr (h3 i o h)
    · exact Or.inl (Or.inr (Or.inr ⟨y, h⟩))

set_option maxRecDepth 100000 in
set_option maxHeartbeats 2000000 in
theorem rsAsk_ok (R : RL) (s : MSt) (u : Int) (r : Rq) (A : Option Addr) (k : Nat) (w : World) (h : RsA w R s) (hu : 0 ≤ u) (hu' : u ≤ 247) (hr : Rd w A r.vs.length (iv r.vs)) (hl : r.vs.length ≤ 1000000) (hm : r.may = true) (hf : s.line.length < 64) (hn : s.next ≤ 1000000) (hoff : 0 < r.vs.length → Off R.S A) :
    Calls Try.prog 10 #[.pointer (some ⟨R.g, 0, none⟩), .int .i64 u, .agg #[.int .i64 r.f, .int .i64 r.a, .int .i64 r.c, .slice A r.vs.length k, .int .i64 r.t, .int .i64 r.an, .int .i64 r.o]] w (RetRAsk R s u r w) := by
  have hE : askE s u r = 0 := by
    unfold askE
    rw [if_neg (by rw [hm]; simp; omega), if_neg (by omega)]
  have hwl : R.ws.length = s.line.length := by rw [← h.wl, List.length_map]
  have H := hide h
  have HE := hide hE
  have HR := hide hr
  have HM := hide hm
  clear h hE hr hm
  have q : decide (u < 0) = false := decide_eq_false (by omega)
  have q2 : decide (247 < u) = false := decide_eq_false (by omega)
  clear hu hu'
  go_enter Try.func10, Try.ntmps10
  go_wp2_with fail
  generalize hV : w.alloc _ = V
  obtain ⟨zV, bV⟩ := box1 w 37 (rqv r A k) V hV.symm
  clear hV
  have hc := refMay_any r.f r.a r.c r.t r.an r.o A r.vs.length k r.vs V (HR.out.keep bV) hl
  have hM2 : mayB r.f r.a r.c r.vs r.t r.an r.o = true := HM.out
  rw [hM2] at hc
  refine hc.mono ?_
  rintro e w1 ⟨rfl, b1⟩
  have Z1 := hide (zV.keep b1)
  have B1 := hide (below_on bV b1)
  clear zV bV b1 hc hM2
  have hA1 := H.out.keep B1.out
  have c6 : w1.cell? ⟨R.g, 6, none⟩ = some (.slice R.A R.ws.length R.k) := hA1.blk.cell 6
  have c5 : w1.cell? ⟨R.g, 5, none⟩ = some (.int .i64 (s.next : Nat)) := hA1.blk.cell 5
  have fz := hA1.blk.frozen
  have q3 : ¬ (64 : Int) ≤ (R.ws.length : Int) := by omega
  obtain ⟨T, hT⟩ : ∃ T : Nat, s.next + 1 = T := ⟨_, rfl⟩
  have q4 : IntKind.i64.wrap ((s.next : Int) + 1) = (T : Int) := by rw [IntKind.wrap_i64]; omega
  have hpg : w.heap.size ≠ R.g := Z1.out.ne hA1.blk (by decide)
  have z3 : w1.cell? ⟨w.heap.size, 3, none⟩ = some (.slice A r.vs.length k) := Z1.out.cell 3
  have A1 := hide hA1
  have HWL := hide hwl
  have HT := hide hT
  have HOF := hide hoff
  have hw64 : R.ws.length ≤ 64 := by omega
  clear hA1 hf hT hoff hwl hn
  go_wp2_with fail
  have hX : But (fun i => i = R.g) w1 (w1.setCell ⟨R.g, 5, none⟩ (.int .i64 (T : Nat))) := But.setCell w1 _ rfl
  have hAX : RsA (w1.setCell ⟨R.g, 5, none⟩ (.int .i64 (T : Nat))) R { s with next := T } := A1.out.turnG hX _ (A1.out.blk.set 5 _) rfl rfl
  have hZX := Z1.out.but hX hpg
  clear c6 c5 fz z3
  generalize w1.setCell ⟨R.g, 5, none⟩ (.int .i64 (T : Nat)) = X at *
  have hrd : Rd X A r.vs.length (iv r.vs) := by
    rcases Nat.eq_zero_or_pos r.vs.length with h0 | h0
    · exact ⟨HR.out.1, fun h1 => by omega⟩
    · exact ((HR.out.keep B1.out).but hX (fun b o e h' => HOF.out h0 b o e (Or.inl h')))
  have AX := hide hAX
  have BX := hide hX
  have ZX := hide hZX
  have HRX := hide hrd
  clear hAX hX hZX hrd
  refine (rsCopy_any A r.vs.length k r.vs X HRX.out hl).mono ?_
  rintro e w2 ⟨C, ck, rfl, o2, b2⟩
  have O2 := hide o2
  have B2 := hide b2
  have hZ2 := ZX.out.keep b2
  have zf := hZ2.frozen 3
  have zc : w2.cell? ⟨w.heap.size, 3, none⟩ = some (.slice A r.vs.length k) := hZ2.cell 3
  have Z2 := hide hZ2
  have A2 := hide (AX.out.keep b2)
  clear o2 b2 hZ2
  go_wp2_with fail
  have hbY : But (fun i => i = w.heap.size) w2 (w2.setCell ⟨w.heap.size, 3, none⟩ (.slice C r.vs.length ck)) := But.setCell w2 _ rfl
  have hYA : RsA (w2.setCell ⟨w.heap.size, 3, none⟩ (.slice C r.vs.length ck)) R { s with next := T } := A2.out.but hbY (by
    rintro i rfl (e | ⟨o, e⟩ | ⟨y, e⟩)
    · exact hpg e
    · exact own_ne A2.out.row Z2.out (by decide) e rfl
    · obtain ⟨t, hb, _⟩ := A2.out.out.lay e
      exact hb.ne Z2.out (by decide) rfl) (fun ho b o e h' => own_ne ho Z2.out (by decide) e h')
  have hYZ : Blk (w2.setCell ⟨w.heap.size, 3, none⟩ (.slice C r.vs.length ck)) w.heap.size 37 (rqv r C ck) := Z2.out.set 3 _
  have hYO : (w2.setCell ⟨w.heap.size, 3, none⟩ (.slice C r.vs.length ck)).ownsRow X.heap.size 3 1 (.slice C r.vs.length ck) r.vs.length (iv r.vs) := own_but O2.out hbY (fun b o e h' => own_ne O2.out Z2.out (by decide) e h')
  have AY := hide hYA
  have ZY := hide hYZ
  have OY := hide hYO
  have BY := hide hbY
  have HsY := hide (show (w2.setCell ⟨w.heap.size, 3, none⟩ (.slice C r.vs.length ck)).heap.size = w2.heap.size by simp [World.setCell])
  clear zf zc hbY
  generalize w2.setCell ⟨w.heap.size, 3, none⟩ (.slice C r.vs.length ck) = Y at *
  have c6 : Y.cell? ⟨R.g, 6, none⟩ = some (.slice R.A R.ws.length R.k) := hYA.blk.cell 6
  have hgY : R.g < Y.heap.size := hYA.blk.lt
  have hq0 : AskD R.g w.heap.size (.int .i64 (T : Nat)) (rqv r C ck) Y.drew := ⟨hYA.blk.cell 5, hYZ, hYA.blk.lt⟩
  have k4 : ∀ w', AskD R.g w.heap.size (.int .i64 (T : Nat)) (rqv r C ck) w' → w'.cell? ⟨R.g, 5, none⟩ = some (.int .i64 (T : Nat)) := fun w' h => h.1
  have z0 : ∀ w', AskD R.g w.heap.size (.int .i64 (T : Nat)) (rqv r C ck) w' → w'.cell? ⟨w.heap.size, 0, none⟩ = some (.int .i64 r.f) := fun w' h => h.2.1.cell 0
  have z1 : ∀ w', AskD R.g w.heap.size (.int .i64 (T : Nat)) (rqv r C ck) w' → w'.cell? ⟨w.heap.size, 1, none⟩ = some (.int .i64 r.a) := fun w' h => h.2.1.cell 1
  have z2 : ∀ w', AskD R.g w.heap.size (.int .i64 (T : Nat)) (rqv r C ck) w' → w'.cell? ⟨w.heap.size, 2, none⟩ = some (.int .i64 r.c) := fun w' h => h.2.1.cell 2
  have z3 : ∀ w', AskD R.g w.heap.size (.int .i64 (T : Nat)) (rqv r C ck) w' → w'.cell? ⟨w.heap.size, 3, none⟩ = some (.slice C r.vs.length ck) := fun w' h => h.2.1.cell 3
  have z4 : ∀ w', AskD R.g w.heap.size (.int .i64 (T : Nat)) (rqv r C ck) w' → w'.cell? ⟨w.heap.size, 4, none⟩ = some (.int .i64 r.t) := fun w' h => h.2.1.cell 4
  have z5 : ∀ w', AskD R.g w.heap.size (.int .i64 (T : Nat)) (rqv r C ck) w' → w'.cell? ⟨w.heap.size, 5, none⟩ = some (.int .i64 r.an) := fun w' h => h.2.1.cell 5
  have z6 : ∀ w', AskD R.g w.heap.size (.int .i64 (T : Nat)) (rqv r C ck) w' → w'.cell? ⟨w.heap.size, 6, none⟩ = some (.int .i64 r.o) := fun w' h => h.2.1.cell 6
  clear hYA hYZ hYO
  refine wp_region_held_drew (S := AskD R.g w.heap.size (.int .i64 (T : Nat)) (rqv r C ck)) (by kernel_rfl) ?_ (fun hHeld => ?_)
  · exact hq0
  refine wpAnyH_take (i := 0) (oi := { dst := some 36, op := _, type := _, pos := _, after := _, guard := _ }) (v := ?v1x1) rfl (by kernel_rfl) (by kernel_rfl) (by kernel_rfl) (fun _ _ _ h => h) (Or.inl ⟨by rfl, ?hy1x1⟩) hHeld ?rest1x1
  case hy1x1 => (intro w hSw; go_simp <;> with_reducible rfl)
  try simp only [Act.put, List.setIfInBounds_toArray, List.set_cons_zero, List.set_cons_succ]
  refine wpAnyH_take (i := 1) (oi := { dst := some 37, op := _, type := _, pos := _, after := _, guard := _ }) (v := ?v1x2) rfl (by kernel_rfl) (by kernel_rfl) (by kernel_rfl) (fun _ _ _ h => h) (Or.inl ⟨by rfl, ?hy1x2⟩) hHeld ?rest1x2
  case hy1x2 => (intro w hSw; go_simp <;> with_reducible rfl)
  try simp only [Act.put, List.setIfInBounds_toArray, List.set_cons_zero, List.set_cons_succ]
  refine wpAnyH_take (i := 2) (oi := { dst := some 38, op := _, type := _, pos := _, after := _, guard := _ }) (v := ?v1x3) rfl (by kernel_rfl) (by kernel_rfl) (by kernel_rfl) (fun _ _ _ h => h) (Or.inl ⟨by rfl, ?hy1x3⟩) hHeld ?rest1x3
  case hy1x3 => (intro w hSw; go_simp <;> with_reducible rfl)
  try simp only [Act.put, List.setIfInBounds_toArray, List.set_cons_zero, List.set_cons_succ]
  refine wpAnyH_take (i := 3) (oi := { dst := some 39, op := _, type := _, pos := _, after := _, guard := _ }) (v := ?v1x4) rfl (by kernel_rfl) (by kernel_rfl) (by kernel_rfl) (fun _ _ _ h => h) (Or.inl ⟨by rfl, ?hy1x4⟩) hHeld ?rest1x4
  case hy1x4 => (intro w hSw; go_simp <;> with_reducible rfl)
  try simp only [Act.put, List.setIfInBounds_toArray, List.set_cons_zero, List.set_cons_succ]
  refine wpAnyH_take (i := 5) (oi := { dst := some 41, op := _, type := _, pos := _, after := _, guard := _ }) (v := ?v1x5) rfl (by kernel_rfl) (by kernel_rfl) (by kernel_rfl) (fun _ _ _ h => h) (Or.inl ⟨by rfl, ?hy1x5⟩) hHeld ?rest1x5
  case hy1x5 => (intro w hSw; go_simp <;> with_reducible rfl)
  try simp only [Act.put, List.setIfInBounds_toArray, List.set_cons_zero, List.set_cons_succ]
  refine wpAnyH_take (i := 6) (oi := { dst := some 42, op := _, type := _, pos := _, after := _, guard := _ }) (v := ?v1x6) rfl (by kernel_rfl) (by kernel_rfl) (by kernel_rfl) (fun _ _ _ h => h) (Or.inl ⟨by rfl, ?hy1x6⟩) hHeld ?rest1x6
  case hy1x6 => (intro w hSw; go_simp <;> with_reducible rfl)
  try simp only [Act.put, List.setIfInBounds_toArray, List.set_cons_zero, List.set_cons_succ]
  refine wpAnyH_take (i := 7) (oi := { dst := some 43, op := _, type := _, pos := _, after := _, guard := _ }) (v := ?v1x7) rfl (by kernel_rfl) (by kernel_rfl) (by kernel_rfl) (fun _ _ _ h => h) (Or.inl ⟨by rfl, ?hy1x7⟩) hHeld ?rest1x7
  case hy1x7 => (intro w hSw; go_simp <;> with_reducible rfl)
  try simp only [Act.put, List.setIfInBounds_toArray, List.set_cons_zero, List.set_cons_succ]
  refine wpAnyH_take (i := 8) (oi := { dst := some 44, op := _, type := _, pos := _, after := _, guard := _ }) (v := ?v1x8) rfl (by kernel_rfl) (by kernel_rfl) (by kernel_rfl) (fun _ _ _ h => h) (Or.inl ⟨by rfl, ?hy1x8⟩) hHeld ?rest1x8
  case hy1x8 => (intro w hSw; go_simp <;> with_reducible rfl)
  try simp only [Act.put, List.setIfInBounds_toArray, List.set_cons_zero, List.set_cons_succ]
  refine wpAnyH_take (i := 9) (oi := { dst := some 45, op := _, type := _, pos := _, after := _, guard := _ }) (v := ?v1x9) rfl (by kernel_rfl) (by kernel_rfl) (by kernel_rfl) (fun _ _ _ h => h) (Or.inl ⟨by rfl, ?hy1x9⟩) hHeld ?rest1x9
  case hy1x9 => (intro w hSw; go_simp <;> with_reducible rfl)
  try simp only [Act.put, List.setIfInBounds_toArray, List.set_cons_zero, List.set_cons_succ]
  refine wpAnyH_take (i := 10) (oi := { dst := some 46, op := _, type := _, pos := _, after := _, guard := _ }) (v := ?v1x10) rfl (by kernel_rfl) (by kernel_rfl) (by kernel_rfl) (fun _ _ _ h => h) (Or.inl ⟨by rfl, ?hy1x10⟩) hHeld ?rest1x10
  case hy1x10 => (intro w hSw; go_simp <;> with_reducible rfl)
  try simp only [Act.put, List.setIfInBounds_toArray, List.set_cons_zero, List.set_cons_succ]
  refine wpAnyH_take (i := 11) (oi := { dst := some 47, op := _, type := _, pos := _, after := _, guard := _ }) (v := ?v1x11) rfl (by kernel_rfl) (by kernel_rfl) (by kernel_rfl) (fun _ _ _ h => h) (Or.inl ⟨by rfl, ?hy1x11⟩) hHeld ?rest1x11
  case hy1x11 => (intro w hSw; go_simp <;> with_reducible rfl)
  try simp only [Act.put, List.setIfInBounds_toArray, List.set_cons_zero, List.set_cons_succ]
  refine wpAnyH_take (i := 12) (oi := { dst := some 48, op := _, type := _, pos := _, after := _, guard := _ }) (v := ?v1x12) rfl (by kernel_rfl) (by kernel_rfl) (by kernel_rfl) (fun _ _ _ h => h) (Or.inl ⟨by rfl, ?hy1x12⟩) hHeld ?rest1x12
  case hy1x12 => (intro w hSw; go_simp <;> with_reducible rfl)
  try simp only [Act.put, List.setIfInBounds_toArray, List.set_cons_zero, List.set_cons_succ]
  refine wpAnyH_ready (rs := [4, 13]) (by kernel_rfl) (by simp) (AllReadyH.cons (o := { dst := some 40, op := _, type := _, pos := _, after := _, guard := _ }) rfl (fun K hK => ?way1x13x4) (AllReadyH.cons (o := { dst := some 49, op := _, type := _, pos := _, after := _, guard := _ }) rfl (fun K hK => ?way1x13x13) AllReadyH.nil))
  case' way1x13x4 =>
    go_simp
    go_wp2_with fail
    refine hK.out _ _ ?_ (fun hHeld => ?_)
    · exact hHeld
    clear hK K
    try simp only [Act.put, List.setIfInBounds_toArray, List.set_cons_zero, List.set_cons_succ]
    refine wpAnyH_ready (rs := [13]) (by kernel_rfl) (by simp) (AllReadyH.cons (o := { dst := some 49, op := _, type := _, pos := _, after := _, guard := _ }) rfl (fun K hK => ?_) AllReadyH.nil)
    go_simp
    go_wp2_with fail
    refine hK.out _ _ ?_ (fun hHeld => ?_)
    · exact hHeld.keep ((Below.refl _ _).alloc (Nat.le_refl _) _)
    clear hK K
    try simp only [Act.put, List.setIfInBounds_toArray, List.set_cons_zero, List.set_cons_succ]
    refine wpAnyH_ready (rs := [14]) (by kernel_rfl) (by simp) (AllReadyH.cons (o := { dst := some 50, op := _, type := _, pos := _, after := _, guard := _ }) rfl (fun K hK => ?_) AllReadyH.nil)
    rw [if_pos (by rfl)]
    refine op_appS (.tmp 40) (.tmp 49) 31 rfl 53 _ 10 96 Try.underlying31 asked_info rfl (by decide) 0 R.A R.ws.length R.k (avs R.ws) rfl (ownS_keep (ownS_keep (ownS_keep AY.out.row ((Below.refl _ _).alloc (Nat.le_refl _) _)) (Below.refl _ _).drew) (Below.refl _ _)) (some ⟨Y.heap.size, 0, none⟩) 1 1 (avs [⟨T, u, r, C, ck⟩]) rfl (rd_asked Y ⟨T, u, r, C, ck⟩) (avs_one _) (by unfold maxLen; omega) (by omega) (Nat.zero_le _) ?_
    intro A3 k3 w3 o3 b3 h3
    have hb2 : Below Y.heap.size Y (Y.alloc (.cells #[.int .i64 (T : Nat), .int .i64 u, .int .i64 r.f, .int .i64 r.a, .int .i64 r.c, .slice C r.vs.length ck, .int .i64 r.t, .int .i64 r.an, .int .i64 r.o, .int .i64 0] 53)).drew := ((Below.refl _ _).alloc (Nat.le_refl _) _).drew
    have hng : ¬ (∃ o, R.A = some ⟨R.g, o, none⟩) := fun ⟨o, e⟩ => AY.out.ne.1 _ o e rfl
    have hnp : ¬ (∃ o, R.A = some ⟨w.heap.size, o, none⟩) := fun ⟨o, e⟩ => Nat.lt_irrefl _ (ownS_lt H.out.row _ o e)
    have hG3 := (AY.out.blk.keep hb2).but b3 hng
    have e6 : w3.cell? ⟨R.g, 6, none⟩ = some (.slice R.A R.ws.length R.k) := hG3.cell 6
    have f3 := hG3.frozen
    have l3 := hG3.lt
    have BX3 := hide (But.after hb2 b3)
    have HG3 := hide hG3
    have O3 := hide o3
    have H3 := hide h3
    have B3 := hide b3
    have HB2 := hide hb2
    have HNG := hide hng
    have HNP := hide hnp
    clear hb2 hG3 o3 h3 b3 hng hnp
    refine hK.out _ _ ?_ (fun hHeld => ?_)
    · exact hHeld.but B3.out HNG.out HNP.out
    clear hK K
    try simp only [Act.put, List.setIfInBounds_toArray, List.set_cons_zero, List.set_cons_succ]
    refine wpAnyH_take (i := 15) (oi := { dst := some 51, op := _, type := _, pos := _, after := _, guard := _ }) (v := ?v1x16) rfl (by kernel_rfl) (by kernel_rfl) (by kernel_rfl) (fun _ _ _ h => h) (Or.inl ⟨by rfl, ?hy1x16⟩) hHeld ?rest1x16
    case hy1x16 => (intro w hSw; go_simp <;> with_reducible rfl)
    try simp only [Act.put, List.setIfInBounds_toArray, List.set_cons_zero, List.set_cons_succ]
    refine wpAnyH_take (i := 16) (oi := { dst := some 52, op := _, type := _, pos := _, after := _, guard := _ }) (v := ?v1x17) rfl (by kernel_rfl) (by kernel_rfl) (by kernel_rfl) (fun _ _ _ h => h) (Or.inl ⟨by rfl, ?hy1x17⟩) hHeld ?rest1x17
    case hy1x17 => (intro w hSw; go_simp <;> with_reducible rfl)
    try simp only [Act.put, List.setIfInBounds_toArray, List.set_cons_zero, List.set_cons_succ]
    refine wpAnyH_ready (rs := [17]) (by kernel_rfl) (by simp) (AllReadyH.cons (o := { dst := none, op := _, type := _, pos := _, after := _, guard := _ }) rfl (fun K hK => ?_) AllReadyH.nil)
    go_simp
    go_wp2_with fail
    refine hK.out _ _ ?_ (fun hHeld => ?_)
    · exact hHeld.set6 hpg _
    clear hK K
    try simp only [Act.put, List.setIfInBounds_toArray, List.set_cons_zero, List.set_cons_succ]
    refine wpAnyH_done (by kernel_rfl) ?_ _
  case' way1x13x13 =>
    go_simp
    go_wp2_with fail
    refine hK.out _ _ ?_ (fun hHeld => ?_)
    · exact hHeld.keep ((Below.refl _ _).alloc (Nat.le_refl _) _)
    clear hK K
    try simp only [Act.put, List.setIfInBounds_toArray, List.set_cons_zero, List.set_cons_succ]
    refine wpAnyH_ready (rs := [4]) (by kernel_rfl) (by simp) (AllReadyH.cons (o := { dst := some 40, op := _, type := _, pos := _, after := _, guard := _ }) rfl (fun K hK => ?_) AllReadyH.nil)
    go_simp
    go_wp2_with fail
    refine hK.out _ _ ?_ (fun hHeld => ?_)
    · exact hHeld
    clear hK K
    try simp only [Act.put, List.setIfInBounds_toArray, List.set_cons_zero, List.set_cons_succ]
    refine wpAnyH_ready (rs := [14]) (by kernel_rfl) (by simp) (AllReadyH.cons (o := { dst := some 50, op := _, type := _, pos := _, after := _, guard := _ }) rfl (fun K hK => ?_) AllReadyH.nil)
    rw [if_pos (by rfl)]
    refine op_appS (.tmp 40) (.tmp 49) 31 rfl 53 _ 10 96 Try.underlying31 asked_info rfl (by decide) 0 R.A R.ws.length R.k (avs R.ws) rfl (ownS_keep (ownS_keep (ownS_keep AY.out.row ((Below.refl _ _).alloc (Nat.le_refl _) _)) (Below.refl _ _).drew) (Below.refl _ _)) (some ⟨Y.heap.size, 0, none⟩) 1 1 (avs [⟨T, u, r, C, ck⟩]) rfl (rd_asked Y ⟨T, u, r, C, ck⟩) (avs_one _) (by unfold maxLen; omega) (by omega) (Nat.zero_le _) ?_
    intro A3 k3 w3 o3 b3 h3
    have hb2 : Below Y.heap.size Y (Y.alloc (.cells #[.int .i64 (T : Nat), .int .i64 u, .int .i64 r.f, .int .i64 r.a, .int .i64 r.c, .slice C r.vs.length ck, .int .i64 r.t, .int .i64 r.an, .int .i64 r.o, .int .i64 0] 53)).drew := ((Below.refl _ _).alloc (Nat.le_refl _) _).drew
    have hng : ¬ (∃ o, R.A = some ⟨R.g, o, none⟩) := fun ⟨o, e⟩ => AY.out.ne.1 _ o e rfl
    have hnp : ¬ (∃ o, R.A = some ⟨w.heap.size, o, none⟩) := fun ⟨o, e⟩ => Nat.lt_irrefl _ (ownS_lt H.out.row _ o e)
    have hG3 := (AY.out.blk.keep hb2).but b3 hng
    have e6 : w3.cell? ⟨R.g, 6, none⟩ = some (.slice R.A R.ws.length R.k) := hG3.cell 6
    have f3 := hG3.frozen
    have l3 := hG3.lt
    have BX3 := hide (But.after hb2 b3)
    have HG3 := hide hG3
    have O3 := hide o3
    have H3 := hide h3
    have B3 := hide b3
    have HB2 := hide hb2
    have HNG := hide hng
    have HNP := hide hnp
    clear hb2 hG3 o3 h3 b3 hng hnp
    refine hK.out _ _ ?_ (fun hHeld => ?_)
    · exact hHeld.but B3.out HNG.out HNP.out
    clear hK K
    try simp only [Act.put, List.setIfInBounds_toArray, List.set_cons_zero, List.set_cons_succ]
    refine wpAnyH_take (i := 15) (oi := { dst := some 51, op := _, type := _, pos := _, after := _, guard := _ }) (v := ?v1x21) rfl (by kernel_rfl) (by kernel_rfl) (by kernel_rfl) (fun _ _ _ h => h) (Or.inl ⟨by rfl, ?hy1x21⟩) hHeld ?rest1x21
    case hy1x21 => (intro w hSw; go_simp <;> with_reducible rfl)
    try simp only [Act.put, List.setIfInBounds_toArray, List.set_cons_zero, List.set_cons_succ]
    refine wpAnyH_take (i := 16) (oi := { dst := some 52, op := _, type := _, pos := _, after := _, guard := _ }) (v := ?v1x22) rfl (by kernel_rfl) (by kernel_rfl) (by kernel_rfl) (fun _ _ _ h => h) (Or.inl ⟨by rfl, ?hy1x22⟩) hHeld ?rest1x22
    case hy1x22 => (intro w hSw; go_simp <;> with_reducible rfl)
    try simp only [Act.put, List.setIfInBounds_toArray, List.set_cons_zero, List.set_cons_succ]
    refine wpAnyH_ready (rs := [17]) (by kernel_rfl) (by simp) (AllReadyH.cons (o := { dst := none, op := _, type := _, pos := _, after := _, guard := _ }) rfl (fun K hK => ?_) AllReadyH.nil)
    go_simp
    go_wp2_with fail
    refine hK.out _ _ ?_ (fun hHeld => ?_)
    · exact hHeld.set6 hpg _
    clear hK K
    try simp only [Act.put, List.setIfInBounds_toArray, List.set_cons_zero, List.set_cons_succ]
    refine wpAnyH_done (by kernel_rfl) ?_ _
  all_goals
    have r4 := hHeld.1
    clear hHeld k4 z0 z1 z2 z3 z4 z5 z6
    go_wp2
    go_ret2
    have hyo : SM.own w3 ⟨T, u, r, C, ck⟩ := by
      have h1 := own_baseN OY.out (base' := 0) (fun _ _ _ => Nat.zero_le _)
      exact own_but (own_keep h1 HB2.out) B3.out (fun b' o' e' ⟨o'', e''⟩ => own_own h1 AY.out.row (by decide) e' e'' rfl)
    have hBY : But (fun i => i = w.heap.size ∨ i = R.g) w1 Y := ((BX.out.wide (fun i e => Or.inr e)).trans (But.ofBelow B2.out (fun _ => False)) (fun _ _ h => h.elim)).trans BY.out (fun i _ e => Or.inl e)
    exact RetRAsk.ok HE.out HT.out B1.out hBY AY.out BX3.out HG3.out O3.out (H3.out.imp id (fun h => h.old (by show w.heap.size ≤ (Y.heap.push _).size; rw [Array.size_push]; have := B1.out.size; have := hBY.size; omega))) hyo H.out

theorem rsAsk_any (R : RL) (s : MSt) (u : Int) (r : Rq) (A : Option Addr) (k : Nat) (w : World) (h : RsA w R s) (hr : Rd w A r.vs.length (iv r.vs)) (hl : r.vs.length ≤ 1000000) (hn : s.next ≤ 1000000) (hoff : 0 < r.vs.length → Off R.S A) :
    Calls Try.prog 10 #[.pointer (some ⟨R.g, 0, none⟩), .int .i64 u, .agg #[.int .i64 r.f, .int .i64 r.a, .int .i64 r.c, .slice A r.vs.length k, .int .i64 r.t, .int .i64 r.an, .int .i64 r.o]] w (RetRAsk R s u r w) := by
  by_cases hu : u < 0 ∨ 247 < u
  · exact rsAsk_unit R s u r A k w h hu
  cases hm : r.may
  · exact rsAsk_may R s u r A k w h (by omega) (by omega) hr hl hm
  by_cases hf : 64 ≤ s.line.length
  · exact rsAsk_full R s u r A k w h (by omega) (by omega) hr hl hm hf
  · exact rsAsk_ok R s u r A k w h (by omega) (by omega) hr hl hm (by omega) hn hoff

end Go.Proofs.Ytfpfijggmfeejaa
