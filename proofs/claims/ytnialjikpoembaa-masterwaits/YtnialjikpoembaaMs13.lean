/-
  What is proved here: what master's Ask answers, and what becomes of the master. Condition: the Values of the request are at most a million, and so were the tickets.
-/
import Derived.Test.YtnialjikpoembaaMs10
import Derived.Test.YtnialjikpoembaaPdu3
namespace Go.Proofs.Ytnialjikpoembaa
set_option linter.unusedVariables false
set_option linter.unusedSimpArgs false
open Go.RowKit Go.Maps

/-- What Ask answers. -/
def RetAsk (m : ML) (s : MSt) (u : Int) (r : Rq) (w : World) (e : Ending) (w' : World) : Prop :=
  ∃ m' : ML, e = .returned (.tuple #[.int .i64 (askT s u r), .int .i64 (askE s u r)]) ∧ MsA w' m' (askS s u r) ∧ m'.g = m.g ∧ m'.n = m.n ∧ But m.S w w' ∧ ∀ i, m'.S i → m.S i ∨ w.heap.size ≤ i
theorem RetAsk.no {m : ML} {s : MSt} {u : Int} {r : Rq} {w w' : World} {E : Int} (h : MsA w m s) (b : Below w.heap.size w w') (hE : askE s u r = E) (h0 : E ≠ 0) : RetAsk m s u r w (.returned (.tuple #[.int .i64 0, .int .i64 E])) w' := by
  refine ⟨m, ?_, ?_, rfl, rfl, But.ofBelow b _, fun i h => Or.inl h⟩
  · unfold askT
    rw [hE, if_neg h0]
  · unfold askS
    rw [hE, if_neg h0]
    exact h.keep b
/-- One more waits. -/
theorem MsA.asked {w w' : World} {m : ML} {s : MSt} (h : MsA w m s) (b : But (fun i => i = m.g ∨ ∃ o, m.A = some ⟨i, o, none⟩) w w') (A' : Option Addr) (k' : Nat) (y : SM) (hblk : Blk w' m.g 73 (mcs { m with A := A', k := k', ws := m.ws ++ [y] } s))
    (hrow : w'.ownsRow 0 51 9 (.slice A' (m.ws ++ [y]).length k') (m.ws ++ [y]).length (svs (m.ws ++ [y]))) (hy : y.own w') : MsA w' { m with A := A', k := k', ws := m.ws ++ [y] } { s with line := s.line ++ [y.wt] } := by
  have hS : ∀ i, (i = m.g ∨ ∃ o, m.A = some ⟨i, o, none⟩) → m.S i := fun i e => e.elim Or.inl (fun e => Or.inr (Or.inr (Or.inl e)))
  refine ⟨hblk, ⟨hrow, fun x hx => ?_⟩, by show List.map SM.wt (m.ws ++ [y]) = _; rw [List.map_append, h.wl]; rfl, ?_, map_but h.mp b ?_, h.rests⟩
  · rcases List.mem_append.1 hx with hx | hx
    · exact (h.line.own x hx).but b (fun b' o' e' h' => h.off (h.line.own x hx) b' o' e' (hS _ h'))
    · simp at hx
      subst hx
      exact hy
  · refine h.out.but b (fun b' y' e => ⟨?_, ?_⟩)
    · obtain ⟨n1, n2, n3⟩ := h.ne3 b' y' e
      rintro (e' | ⟨o, e'⟩)
      · exact n1 e'
      · exact n3 b' o e' rfl
    · obtain ⟨t, _, ho⟩ := h.out.lay e
      exact fun b'' o'' e'' h'' => h.off ho b'' o'' e'' (hS _ h'')
  · rintro (e' | ⟨o, e'⟩)
    · exact h.ne1 e'.symm
    · exact (h.ne2 _ o e').2 rfl

theorem msAsk_unit (m : ML) (s : MSt) (u : Int) (r : Rq) (A : Option Addr) (k : Nat) (w : World) (h : MsA w m s) (hu : u < 0 ∨ 247 < u) :
    Calls Try.prog 12 #[.pointer (some ⟨m.g, 0, none⟩), .int .i64 u, .agg #[.int .i64 r.f, .int .i64 r.a, .int .i64 r.c, .slice A r.vs.length k, .int .i64 r.t, .int .i64 r.an, .int .i64 r.o]] w (RetAsk m s u r w) := by
  have hE : askE s u r = 1 := by
    unfold askE
    rw [if_pos (by omega)]
  have H := hide h
  have HE := hide hE
  clear h hE
  by_cases h0 : u < 0
  · have q := decide_eq_true h0
    clear hu h0
    go_enter Try.func12, Try.ntmps12
    go_wp2
    go_ret2
    exact RetAsk.no H.out ((Below.refl _ _).alloc (Nat.le_refl _) _) HE.out (by omega)
  · have q : decide (u < 0) = false := decide_eq_false h0
    have q2 : decide (247 < u) = true := decide_eq_true (by omega)
    clear hu h0
    go_enter Try.func12, Try.ntmps12
    go_wp2
    go_ret2
    exact RetAsk.no H.out ((Below.refl _ _).alloc (Nat.le_refl _) _) HE.out (by omega)
theorem msAsk_may (m : ML) (s : MSt) (u : Int) (r : Rq) (A : Option Addr) (k : Nat) (w : World) (h : MsA w m s) (hu : 0 ≤ u) (hu' : u ≤ 247) (hr : Rd w A r.vs.length (iv r.vs)) (hl : r.vs.length ≤ 1000000) (hm : r.may = false) :
    Calls Try.prog 12 #[.pointer (some ⟨m.g, 0, none⟩), .int .i64 u, .agg #[.int .i64 r.f, .int .i64 r.a, .int .i64 r.c, .slice A r.vs.length k, .int .i64 r.t, .int .i64 r.an, .int .i64 r.o]] w (RetAsk m s u r w) := by
  have hE : askE s u r = 1 := by
    unfold askE
    rw [if_pos (Or.inr (Or.inr hm))]
  have H := hide h
  have HE := hide hE
  have HR := hide hr
  have HM := hide hm
  clear h hE hr hm
  have q : decide (u < 0) = false := decide_eq_false (by omega)
  have q2 : decide (247 < u) = false := decide_eq_false (by omega)
  clear hu hu'
  go_enter Try.func12, Try.ntmps12
  go_wp2_with fail
  generalize hV : w.alloc _ = V
  obtain ⟨zV, bV⟩ := box1 w 37 (rqv r A k) V hV.symm
  clear hV
  have hc := check_any r.f r.a r.c r.t r.an r.o A r.vs.length k r.vs V (HR.out.keep bV) hl
  have hM2 : mayB r.f r.a r.c r.vs r.t r.an r.o = false := HM.out
  rw [hM2] at hc
  refine hc.mono ?_
  rintro e w1 ⟨rfl, b1⟩
  have Z1 := hide (zV.keep b1)
  have B1 := hide (below_on bV b1)
  clear zV bV b1 hc hM2
  go_wp2
  go_ret2
  exact RetAsk.no H.out B1.out HE.out (by omega)
theorem msAsk_full (m : ML) (s : MSt) (u : Int) (r : Rq) (A : Option Addr) (k : Nat) (w : World) (h : MsA w m s) (hu : 0 ≤ u) (hu' : u ≤ 247) (hr : Rd w A r.vs.length (iv r.vs)) (hl : r.vs.length ≤ 1000000) (hm : r.may = true) (hf : 64 ≤ s.line.length) :
    Calls Try.prog 12 #[.pointer (some ⟨m.g, 0, none⟩), .int .i64 u, .agg #[.int .i64 r.f, .int .i64 r.a, .int .i64 r.c, .slice A r.vs.length k, .int .i64 r.t, .int .i64 r.an, .int .i64 r.o]] w (RetAsk m s u r w) := by
  have hE : askE s u r = 6 := by
    unfold askE
    rw [if_neg (by rw [hm]; simp; omega), if_pos hf]
  have hwl : m.ws.length = s.line.length := by rw [← h.wl, List.length_map]
  have H := hide h
  have HE := hide hE
  have HR := hide hr
  have HM := hide hm
  clear h hE hr hm
  have q : decide (u < 0) = false := decide_eq_false (by omega)
  have q2 : decide (247 < u) = false := decide_eq_false (by omega)
  clear hu hu'
  go_enter Try.func12, Try.ntmps12
  go_wp2_with fail
  generalize hV : w.alloc _ = V
  obtain ⟨zV, bV⟩ := box1 w 37 (rqv r A k) V hV.symm
  clear hV
  have hc := check_any r.f r.a r.c r.t r.an r.o A r.vs.length k r.vs V (HR.out.keep bV) hl
  have hM2 : mayB r.f r.a r.c r.vs r.t r.an r.o = true := HM.out
  rw [hM2] at hc
  refine hc.mono ?_
  rintro e w1 ⟨rfl, b1⟩
  have Z1 := hide (zV.keep b1)
  have B1 := hide (below_on bV b1)
  clear zV bV b1 hc hM2
  have c5 : w1.cell? ⟨m.g, 5, none⟩ = some (.slice m.A m.ws.length m.k) := (H.out.keep B1.out).blk.cell 5
  have q3 : (64 : Int) ≤ (m.ws.length : Int) := by omega
  clear hf hwl
  go_wp2
  go_ret2
  exact RetAsk.no H.out B1.out HE.out (by omega)
theorem rd_send (w : World) (y : SM) : Rd (w.alloc (.cells (arr y.vs) 51)) (some ⟨w.heap.size, 0, none⟩) (1 * 9) (svs [y]) := by
  have e : svs [y] = y.vs := by show y.vs ++ [] = _; rw [List.append_nil]
  rw [e]
  exact (Blk.new w 51 y.vs).rd
theorem RetAsk.ok {m : ML} {s : MSt} {u : Int} {r : Rq} {w w1 X w3 : World} {T : Nat} {A3 C : Option Addr} {k3 ck : Nat} (hE : askE s u r = 0) (hT : s.next + 1 = T) (b1 : Below w.heap.size w w1) (bX : But (fun i => i = m.g) w1 X) (hA : MsA X m { s with next := T })
    (b3 : But (fun i => ∃ o, m.A = some ⟨i, o, none⟩) X w3) (hG : Blk w3 m.g 73 (mcs m { s with next := T })) (o3 : w3.ownsRow 0 51 9 (.slice A3 (m.ws.length + 1) k3) (m.ws.length + 1) (svs m.ws ++ svs [⟨T, u, r, C, ck⟩])) (h3 : A3 = m.A ∨ NewAt w A3) (hy : SM.own w3 ⟨T, u, r, C, ck⟩) :
    RetAsk m s u r w (.returned (.tuple #[.int .i64 (T : Nat), .int .i64 0])) (w3.setCell ⟨m.g, 5, none⟩ (.slice A3 (m.ws.length + 1) k3)) := by
  have hlen : (m.ws ++ [(⟨T, u, r, C, ck⟩ : SM)]).length = m.ws.length + 1 := by simp
  have hY : But (fun i => i = m.g) w3 (w3.setCell ⟨m.g, 5, none⟩ (.slice A3 (m.ws.length + 1) k3)) := But.setCell w3 _ rfl
  have hap : ∀ b o, A3 = some ⟨b, o, none⟩ → b ≠ m.g := fun b o e => own_ne o3 hG (by decide) e
  have hb : But (fun i => i = m.g ∨ ∃ o, m.A = some ⟨i, o, none⟩) X (w3.setCell ⟨m.g, 5, none⟩ (.slice A3 (m.ws.length + 1) k3)) := (b3.wide (fun i e => Or.inr e)).trans hY (fun i _ e => Or.inl e)
  have hM := hA.asked hb A3 k3 ⟨T, u, r, C, ck⟩ (by
    have := hG.set 5 (.slice A3 (m.ws.length + 1) k3)
    have e : mcs { m with A := A3, k := k3, ws := m.ws ++ [(⟨T, u, r, C, ck⟩ : SM)] } { s with next := T } = (mcs m { s with next := T }).set 5 (.slice A3 (m.ws.length + 1) k3) := by
      show [_, _, _, _, _, _, _, _] = [_, _, _, _, _, _, _, _]
      simp only [hlen]
    rw [e]
    exact this) (by
    rw [hlen, svs_append]
    exact ownS_but o3 hY hap) (hy.but hY (fun b o e h' => own_ne hy hG (by decide) e h'))
  refine ⟨{ m with A := A3, k := k3, ws := m.ws ++ [(⟨T, u, r, C, ck⟩ : SM)] }, ?_, ?_, rfl, rfl, ?_, ?_⟩
  · unfold askT
    rw [hE, if_pos rfl, hT]
  · unfold askS
    rw [hE, if_pos rfl, hT]
    exact hM
  · have h1 : But m.S w X := (But.ofBelow b1 m.S).trans bX (fun i _ e => Or.inl e)
    exact h1.trans hb (fun i _ e => e.elim Or.inl (fun e => Or.inr (Or.inr (Or.inl e))))
  · rintro i (h | h | ⟨o, h⟩ | ⟨y, h⟩)
    · exact Or.inl (Or.inl h)
    · exact Or.inl (Or.inr (Or.inl h))
    · rcases h3 with rfl | h3
      · exact Or.inl (Or.inr (Or.inr (Or.inl ⟨o, h⟩)))
      · exact Or.inr (h3 i o h)
    · exact Or.inl (Or.inr (Or.inr (Or.inr ⟨y, h⟩)))
/-- What is read while a request is laid behind those that wait. -/
def AskQ (g p : Nat) (T : Value) (cs : List Value) (w : World) : Prop := w.cell? ⟨g, 4, none⟩ = some T ∧ Blk w p 37 cs ∧ g < w.heap.size
theorem AskQ.keep {g p : Nat} {T : Value} {cs : List Value} {w w' : World} (h : AskQ g p T cs w) (b : Below w.heap.size w w') : AskQ g p T cs w' := ⟨(b.cell (p := ⟨g, 4, none⟩) h.2.2).trans h.1, h.2.1.keep b, Nat.lt_of_lt_of_le h.2.2 b.size⟩
theorem AskQ.but {S : Nat → Prop} {g p : Nat} {T : Value} {cs : List Value} {w w' : World} (h : AskQ g p T cs w) (b : But S w w') (hg : ¬ S g) (hp : ¬ S p) : AskQ g p T cs w' := ⟨(World.cell?_of_block (w := w) (b.block g h.2.2 hg)).trans h.1, h.2.1.but b hp, Nat.lt_of_lt_of_le h.2.2 b.size⟩
theorem AskQ.set5 {g p : Nat} {T : Value} {cs : List Value} {w : World} (h : AskQ g p T cs w) (hp : p ≠ g) (v : Value) : AskQ g p T cs (w.setCell ⟨g, 5, none⟩ v) := by
  refine ⟨?_, h.2.1.oth hp.symm _ _, by simpa using h.2.2⟩
  have := h.1
  simp [World.cell?_setCell_other, this]
set_option maxRecDepth 100000 in
set_option maxHeartbeats 2000000 in
theorem msAsk_ok (m : ML) (s : MSt) (u : Int) (r : Rq) (A : Option Addr) (k : Nat) (w : World) (h : MsA w m s) (hu : 0 ≤ u) (hu' : u ≤ 247) (hr : Rd w A r.vs.length (iv r.vs)) (hl : r.vs.length ≤ 1000000) (hm : r.may = true) (hf : s.line.length < 64) (hn : s.next ≤ 1000000) (hoff : Off m.S A) :
    Calls Try.prog 12 #[.pointer (some ⟨m.g, 0, none⟩), .int .i64 u, .agg #[.int .i64 r.f, .int .i64 r.a, .int .i64 r.c, .slice A r.vs.length k, .int .i64 r.t, .int .i64 r.an, .int .i64 r.o]] w (RetAsk m s u r w) := by
  have hE : askE s u r = 0 := by
    unfold askE
    rw [if_neg (by rw [hm]; simp; omega), if_neg (by omega)]
  have hwl : m.ws.length = s.line.length := by rw [← h.wl, List.length_map]
  have H := hide h
  have HE := hide hE
  have HR := hide hr
  have HM := hide hm
  clear h hE hr hm
  have q : decide (u < 0) = false := decide_eq_false (by omega)
  have q2 : decide (247 < u) = false := decide_eq_false (by omega)
  clear hu hu'
  go_enter Try.func12, Try.ntmps12
  go_wp2_with fail
  generalize hV : w.alloc _ = V
  obtain ⟨zV, bV⟩ := box1 w 37 (rqv r A k) V hV.symm
  clear hV
  have hc := check_any r.f r.a r.c r.t r.an r.o A r.vs.length k r.vs V (HR.out.keep bV) hl
  have hM2 : mayB r.f r.a r.c r.vs r.t r.an r.o = true := HM.out
  rw [hM2] at hc
  refine hc.mono ?_
  rintro e w1 ⟨rfl, b1⟩
  have Z1 := hide (zV.keep b1)
  have B1 := hide (below_on bV b1)
  clear zV bV b1 hc hM2
  have hA1 := H.out.keep B1.out
  have c5 : w1.cell? ⟨m.g, 5, none⟩ = some (.slice m.A m.ws.length m.k) := hA1.blk.cell 5
  have c4 : w1.cell? ⟨m.g, 4, none⟩ = some (.int .i64 (s.next : Nat)) := hA1.blk.cell 4
  have fz := hA1.blk.frozen
  have q3 : ¬ (64 : Int) ≤ (m.ws.length : Int) := by omega
  obtain ⟨T, hT⟩ : ∃ T : Nat, s.next + 1 = T := ⟨_, rfl⟩
  have q4 : IntKind.i64.wrap ((s.next : Int) + 1) = (T : Int) := by rw [IntKind.wrap_i64]; omega
  have A1 := hide hA1
  have HWL := hide hwl
  have HT := hide hT
  have HOF := hide hoff
  have hw64 : m.ws.length ≤ 64 := by omega
  clear hA1 hf hT hoff hwl hn
  go_wp2_with fail
  have hX : But (fun i => i = m.g) w1 (w1.setCell ⟨m.g, 4, none⟩ (.int .i64 (T : Nat))) := But.setCell w1 _ rfl
  have hAX : MsA (w1.setCell ⟨m.g, 4, none⟩ (.int .i64 (T : Nat))) m { s with next := T } := A1.out.turnG hX _ (A1.out.blk.set 4 _) rfl rfl rfl A1.out.rests
  have hpg : w.heap.size ≠ m.g := Z1.out.ne A1.out.blk (by decide)
  have hZX := Z1.out.but hX hpg
  clear c5 c4 fz
  generalize w1.setCell ⟨m.g, 4, none⟩ (.int .i64 (T : Nat)) = X at *
  have c5 : X.cell? ⟨m.g, 5, none⟩ = some (.slice m.A m.ws.length m.k) := hAX.blk.cell 5
  have hq0 : AskQ m.g w.heap.size (.int .i64 (T : Nat)) (rqv r A k) X.drew := ⟨hAX.blk.cell 4, hZX, hAX.blk.lt⟩
  have k4 : ∀ w', AskQ m.g w.heap.size (.int .i64 (T : Nat)) (rqv r A k) w' → w'.cell? ⟨m.g, 4, none⟩ = some (.int .i64 (T : Nat)) := fun w' h => h.1
  have z0 : ∀ w', AskQ m.g w.heap.size (.int .i64 (T : Nat)) (rqv r A k) w' → w'.cell? ⟨w.heap.size, 0, none⟩ = some (.int .i64 r.f) := fun w' h => h.2.1.cell 0
  have z1 : ∀ w', AskQ m.g w.heap.size (.int .i64 (T : Nat)) (rqv r A k) w' → w'.cell? ⟨w.heap.size, 1, none⟩ = some (.int .i64 r.a) := fun w' h => h.2.1.cell 1
  have z2 : ∀ w', AskQ m.g w.heap.size (.int .i64 (T : Nat)) (rqv r A k) w' → w'.cell? ⟨w.heap.size, 2, none⟩ = some (.int .i64 r.c) := fun w' h => h.2.1.cell 2
  have z3 : ∀ w', AskQ m.g w.heap.size (.int .i64 (T : Nat)) (rqv r A k) w' → w'.cell? ⟨w.heap.size, 3, none⟩ = some (.slice A r.vs.length k) := fun w' h => h.2.1.cell 3
  have z4 : ∀ w', AskQ m.g w.heap.size (.int .i64 (T : Nat)) (rqv r A k) w' → w'.cell? ⟨w.heap.size, 4, none⟩ = some (.int .i64 r.t) := fun w' h => h.2.1.cell 4
  have z5 : ∀ w', AskQ m.g w.heap.size (.int .i64 (T : Nat)) (rqv r A k) w' → w'.cell? ⟨w.heap.size, 5, none⟩ = some (.int .i64 r.an) := fun w' h => h.2.1.cell 5
  have z6 : ∀ w', AskQ m.g w.heap.size (.int .i64 (T : Nat)) (rqv r A k) w' → w'.cell? ⟨w.heap.size, 6, none⟩ = some (.int .i64 r.o) := fun w' h => h.2.1.cell 6
  have hgX : m.g < X.heap.size := hAX.blk.lt
  have hrd : Rd X.drew A r.vs.length (iv r.vs) := by
    exact (((HR.out.keep B1.out).but hX (fun b o e h' => HOF.out b o e (Or.inl h'))).keep (Below.refl _ _).drew)
  have HCP := hide (copied_any r A k X.drew hrd hl)
  have AX := hide hAX
  have BX := hide hX
  clear hAX hX hZX hrd
  refine wp_region_held_drew (S := AskQ m.g w.heap.size (.int .i64 (T : Nat)) (rqv r A k)) (by kernel_rfl) ?_ (fun hHeld => ?_)
  · exact hq0
  refine wpAnyH_take (i := 0) (oi := { dst := some 34, op := _, type := _, pos := _, after := _, guard := _ }) (v := ?v1x1) rfl (by kernel_rfl) (by kernel_rfl) (by kernel_rfl) (fun _ _ _ h => h) (Or.inl ⟨by rfl, ?hy1x1⟩) hHeld ?rest1x1
  case hy1x1 => (intro w hSw; go_simp <;> with_reducible rfl)
  try simp only [Act.put, List.setIfInBounds_toArray, List.set_cons_zero, List.set_cons_succ]
  refine wpAnyH_take (i := 1) (oi := { dst := some 35, op := _, type := _, pos := _, after := _, guard := _ }) (v := ?v1x2) rfl (by kernel_rfl) (by kernel_rfl) (by kernel_rfl) (fun _ _ _ h => h) (Or.inl ⟨by rfl, ?hy1x2⟩) hHeld ?rest1x2
  case hy1x2 => (intro w hSw; go_simp <;> with_reducible rfl)
  try simp only [Act.put, List.setIfInBounds_toArray, List.set_cons_zero, List.set_cons_succ]
  refine wpAnyH_take (i := 2) (oi := { dst := some 36, op := _, type := _, pos := _, after := _, guard := _ }) (v := ?v1x3) rfl (by kernel_rfl) (by kernel_rfl) (by kernel_rfl) (fun _ _ _ h => h) (Or.inl ⟨by rfl, ?hy1x3⟩) hHeld ?rest1x3
  case hy1x3 => (intro w hSw; go_simp <;> with_reducible rfl)
  try simp only [Act.put, List.setIfInBounds_toArray, List.set_cons_zero, List.set_cons_succ]
  refine wpAnyH_take (i := 3) (oi := { dst := some 37, op := _, type := _, pos := _, after := _, guard := _ }) (v := ?v1x4) rfl (by kernel_rfl) (by kernel_rfl) (by kernel_rfl) (fun _ _ _ h => h) (Or.inl ⟨by rfl, ?hy1x4⟩) hHeld ?rest1x4
  case hy1x4 => (intro w hSw; go_simp <;> with_reducible rfl)
  try simp only [Act.put, List.setIfInBounds_toArray, List.set_cons_zero, List.set_cons_succ]
  refine wpAnyH_take (i := 5) (oi := { dst := some 39, op := _, type := _, pos := _, after := _, guard := _ }) (v := ?v1x5) rfl (by kernel_rfl) (by kernel_rfl) (by kernel_rfl) (fun _ _ _ h => h) (Or.inl ⟨by rfl, ?hy1x5⟩) hHeld ?rest1x5
  case hy1x5 => (intro w hSw; go_simp <;> with_reducible rfl)
  try simp only [Act.put, List.setIfInBounds_toArray, List.set_cons_zero, List.set_cons_succ]
  refine wpAnyH_take (i := 6) (oi := { dst := some 40, op := _, type := _, pos := _, after := _, guard := _ }) (v := ?v1x6) rfl (by kernel_rfl) (by kernel_rfl) (by kernel_rfl) (fun _ _ _ h => h) (Or.inl ⟨by rfl, ?hy1x6⟩) hHeld ?rest1x6
  case hy1x6 => (intro w hSw; go_simp <;> with_reducible rfl)
  try simp only [Act.put, List.setIfInBounds_toArray, List.set_cons_zero, List.set_cons_succ]
  refine wpAnyH_take (i := 7) (oi := { dst := some 41, op := _, type := _, pos := _, after := _, guard := _ }) (v := ?v1x7) rfl (by kernel_rfl) (by kernel_rfl) (by kernel_rfl) (fun _ _ _ h => h) (Or.inl ⟨by rfl, ?hy1x7⟩) hHeld ?rest1x7
  case hy1x7 => (intro w hSw; go_simp <;> with_reducible rfl)
  try simp only [Act.put, List.setIfInBounds_toArray, List.set_cons_zero, List.set_cons_succ]
  refine wpAnyH_take (i := 8) (oi := { dst := some 42, op := _, type := _, pos := _, after := _, guard := _ }) (v := ?v1x8) rfl (by kernel_rfl) (by kernel_rfl) (by kernel_rfl) (fun _ _ _ h => h) (Or.inl ⟨by rfl, ?hy1x8⟩) hHeld ?rest1x8
  case hy1x8 => (intro w hSw; go_simp <;> with_reducible rfl)
  try simp only [Act.put, List.setIfInBounds_toArray, List.set_cons_zero, List.set_cons_succ]
  refine wpAnyH_take (i := 9) (oi := { dst := some 43, op := _, type := _, pos := _, after := _, guard := _ }) (v := ?v1x9) rfl (by kernel_rfl) (by kernel_rfl) (by kernel_rfl) (fun _ _ _ h => h) (Or.inl ⟨by rfl, ?hy1x9⟩) hHeld ?rest1x9
  case hy1x9 => (intro w hSw; go_simp <;> with_reducible rfl)
  try simp only [Act.put, List.setIfInBounds_toArray, List.set_cons_zero, List.set_cons_succ]
  refine wpAnyH_take (i := 10) (oi := { dst := some 44, op := _, type := _, pos := _, after := _, guard := _ }) (v := ?v1x10) rfl (by kernel_rfl) (by kernel_rfl) (by kernel_rfl) (fun _ _ _ h => h) (Or.inl ⟨by rfl, ?hy1x10⟩) hHeld ?rest1x10
  case hy1x10 => (intro w hSw; go_simp <;> with_reducible rfl)
  try simp only [Act.put, List.setIfInBounds_toArray, List.set_cons_zero, List.set_cons_succ]
  refine wpAnyH_ready (rs := [4, 11]) (by kernel_rfl) (by simp) (AllReadyH.cons (o := { dst := some 38, op := _, type := _, pos := _, after := _, guard := _ }) rfl (fun K hK => ?way1x11x4) (AllReadyH.cons (o := { dst := some 45, op := _, type := _, pos := _, after := _, guard := _ }) rfl (fun K hK => ?way1x11x11) AllReadyH.nil))
  case' way1x11x4 =>
    go_simp
    go_wp2_with fail
    refine hK.out _ _ ?_ (fun hHeld => ?_)
    · exact hHeld
    clear hK K
    try simp only [Act.put, List.setIfInBounds_toArray, List.set_cons_zero, List.set_cons_succ]
    refine wpAnyH_ready (rs := [11]) (by kernel_rfl) (by simp) (AllReadyH.cons (o := { dst := some 45, op := _, type := _, pos := _, after := _, guard := _ }) rfl (fun K hK => ?_) AllReadyH.nil)
    go_simp
    refine HCP.out.mono ?_
    rintro e w2 ⟨C, ck, rfl, o2, n2, b2⟩
    have k5 : w2.cell? ⟨m.g, 5, none⟩ = some (.slice m.A m.ws.length m.k) := (b2.cell (p := ⟨m.g, 5, none⟩) hgX).trans c5
    have hg2 : m.g < w2.heap.size := Nat.lt_of_lt_of_le hgX b2.size
    have O2 := hide o2
    have N2 := hide n2
    have B2 := hide b2
    clear o2 n2 b2
    simp only [arr, rqv]
    go_wp2_with fail
    refine hK.out _ _ ?_ (fun hHeld => ?_)
    · exact hHeld.keep B2.out
    clear hK K
    try simp only [Act.put, List.setIfInBounds_toArray, List.set_cons_zero, List.set_cons_succ]
    refine wpAnyH_take (i := 12) (oi := { dst := some 46, op := _, type := _, pos := _, after := _, guard := _ }) (v := ?v1x13) rfl (by kernel_rfl) (by kernel_rfl) (by kernel_rfl) (fun _ _ _ h => h) (Or.inl ⟨by rfl, ?hy1x13⟩) hHeld ?rest1x13
    case hy1x13 => (intro w hSw; go_simp <;> with_reducible rfl)
    try simp only [Act.put, List.setIfInBounds_toArray, List.set_cons_zero, List.set_cons_succ]
    refine wpAnyH_ready (rs := [13]) (by kernel_rfl) (by simp) (AllReadyH.cons (o := { dst := some 47, op := _, type := _, pos := _, after := _, guard := _ }) rfl (fun K hK => ?_) AllReadyH.nil)
    go_simp
    go_wp2_with fail
    refine hK.out _ _ ?_ (fun hHeld => ?_)
    · exact hHeld.keep ((Below.refl _ _).alloc (Nat.le_refl _) _)
    clear hK K
    try simp only [Act.put, List.setIfInBounds_toArray, List.set_cons_zero, List.set_cons_succ]
    refine wpAnyH_ready (rs := [14]) (by kernel_rfl) (by simp) (AllReadyH.cons (o := { dst := some 48, op := _, type := _, pos := _, after := _, guard := _ }) rfl (fun K hK => ?_) AllReadyH.nil)
    rw [if_pos (by rfl)]
    refine op_appS (.tmp 38) (.tmp 47) 43 rfl 51 _ 9 88 Try.underlying43 send_info3 rfl (by decide) 0 m.A m.ws.length m.k (svs m.ws) rfl (ownS_keep (ownS_keep (ownS_keep AX.out.line.row (Below.refl _ _).drew) B2.out) ((Below.refl _ _).alloc (Nat.le_refl _) _)) (some ⟨w2.heap.size, 0, none⟩) 1 1 (svs [⟨T, u, r, C, ck⟩]) rfl (rd_send w2 ⟨T, u, r, C, ck⟩) (svs_one _) (by unfold maxLen; omega) (by omega) (Nat.zero_le _) ?_
    intro A3 k3 w3 o3 b3 h3
    have hb2 : Below X.heap.size X (w2.alloc (.cells #[.int .i64 (T : Nat), .int .i64 u, .int .i64 r.f, .int .i64 r.a, .int .i64 r.c, .slice C r.vs.length ck, .int .i64 r.t, .int .i64 r.an, .int .i64 r.o] 51)) := below_on (below_on (Below.refl _ _).drew B2.out) ((Below.refl _ _).alloc (Nat.le_refl _) _)
    have hng : ¬ (∃ o, m.A = some ⟨m.g, o, none⟩) := fun ⟨o, e⟩ => (AX.out.ne2 _ o e).1 rfl
    have hnp : ¬ (∃ o, m.A = some ⟨w.heap.size, o, none⟩) := fun ⟨o, e⟩ => Nat.lt_irrefl _ (ownS_lt H.out.line.row _ o e)
    have hG3 := (AX.out.blk.keep hb2).but b3 hng
    have e5 : w3.cell? ⟨m.g, 5, none⟩ = some (.slice m.A m.ws.length m.k) := hG3.cell 5
    have f3 := hG3.frozen
    have l3 := hG3.lt
    have BX3 := hide (But.after hb2 b3)
    have HG3 := hide hG3
    have O3 := hide o3
    have H3 := hide h3
    have B3 := hide b3
    have HNG := hide hng
    have HNP := hide hnp
    clear hb2 hG3 o3 h3 b3 hng hnp
    refine hK.out _ _ ?_ (fun hHeld => ?_)
    · exact hHeld.but B3.out HNG.out HNP.out
    clear hK K
    try simp only [Act.put, List.setIfInBounds_toArray, List.set_cons_zero, List.set_cons_succ]
    refine wpAnyH_take (i := 15) (oi := { dst := some 49, op := _, type := _, pos := _, after := _, guard := _ }) (v := ?v1x16) rfl (by kernel_rfl) (by kernel_rfl) (by kernel_rfl) (fun _ _ _ h => h) (Or.inl ⟨by rfl, ?hy1x16⟩) hHeld ?rest1x16
    case hy1x16 => (intro w hSw; go_simp <;> with_reducible rfl)
    try simp only [Act.put, List.setIfInBounds_toArray, List.set_cons_zero, List.set_cons_succ]
    refine wpAnyH_take (i := 16) (oi := { dst := some 50, op := _, type := _, pos := _, after := _, guard := _ }) (v := ?v1x17) rfl (by kernel_rfl) (by kernel_rfl) (by kernel_rfl) (fun _ _ _ h => h) (Or.inl ⟨by rfl, ?hy1x17⟩) hHeld ?rest1x17
    case hy1x17 => (intro w hSw; go_simp <;> with_reducible rfl)
    try simp only [Act.put, List.setIfInBounds_toArray, List.set_cons_zero, List.set_cons_succ]
    refine wpAnyH_ready (rs := [17]) (by kernel_rfl) (by simp) (AllReadyH.cons (o := { dst := none, op := _, type := _, pos := _, after := _, guard := _ }) rfl (fun K hK => ?_) AllReadyH.nil)
    go_simp
    go_wp2_with fail
    refine hK.out _ _ ?_ (fun hHeld => ?_)
    · exact hHeld.set5 hpg _
    clear hK K
    try simp only [Act.put, List.setIfInBounds_toArray, List.set_cons_zero, List.set_cons_succ]
    refine wpAnyH_done (by kernel_rfl) ?_ _
  case' way1x11x11 =>
    go_simp
    refine HCP.out.mono ?_
    rintro e w2 ⟨C, ck, rfl, o2, n2, b2⟩
    have k5 : w2.cell? ⟨m.g, 5, none⟩ = some (.slice m.A m.ws.length m.k) := (b2.cell (p := ⟨m.g, 5, none⟩) hgX).trans c5
    have hg2 : m.g < w2.heap.size := Nat.lt_of_lt_of_le hgX b2.size
    have O2 := hide o2
    have N2 := hide n2
    have B2 := hide b2
    clear o2 n2 b2
    simp only [arr, rqv]
    go_wp2_with fail
    refine hK.out _ _ ?_ (fun hHeld => ?_)
    · exact hHeld.keep B2.out
    clear hK K
    try simp only [Act.put, List.setIfInBounds_toArray, List.set_cons_zero, List.set_cons_succ]
    refine wpAnyH_take (i := 12) (oi := { dst := some 46, op := _, type := _, pos := _, after := _, guard := _ }) (v := ?v1x19) rfl (by kernel_rfl) (by kernel_rfl) (by kernel_rfl) (fun _ _ _ h => h) (Or.inl ⟨by rfl, ?hy1x19⟩) hHeld ?rest1x19
    case hy1x19 => (intro w hSw; go_simp <;> with_reducible rfl)
    try simp only [Act.put, List.setIfInBounds_toArray, List.set_cons_zero, List.set_cons_succ]
    refine wpAnyH_ready (rs := [4, 13]) (by kernel_rfl) (by simp) (AllReadyH.cons (o := { dst := some 38, op := _, type := _, pos := _, after := _, guard := _ }) rfl (fun K hK => ?way1x20x4) (AllReadyH.cons (o := { dst := some 47, op := _, type := _, pos := _, after := _, guard := _ }) rfl (fun K hK => ?way1x20x13) AllReadyH.nil))
    case' way1x20x4 =>
      go_simp
      go_wp2_with fail
      refine hK.out _ _ ?_ (fun hHeld => ?_)
      · exact hHeld
      clear hK K
      try simp only [Act.put, List.setIfInBounds_toArray, List.set_cons_zero, List.set_cons_succ]
      refine wpAnyH_ready (rs := [13]) (by kernel_rfl) (by simp) (AllReadyH.cons (o := { dst := some 47, op := _, type := _, pos := _, after := _, guard := _ }) rfl (fun K hK => ?_) AllReadyH.nil)
      go_simp
      go_wp2_with fail
      refine hK.out _ _ ?_ (fun hHeld => ?_)
      · exact hHeld.keep ((Below.refl _ _).alloc (Nat.le_refl _) _)
      clear hK K
      try simp only [Act.put, List.setIfInBounds_toArray, List.set_cons_zero, List.set_cons_succ]
      refine wpAnyH_ready (rs := [14]) (by kernel_rfl) (by simp) (AllReadyH.cons (o := { dst := some 48, op := _, type := _, pos := _, after := _, guard := _ }) rfl (fun K hK => ?_) AllReadyH.nil)
      rw [if_pos (by rfl)]
      refine op_appS (.tmp 38) (.tmp 47) 43 rfl 51 _ 9 88 Try.underlying43 send_info3 rfl (by decide) 0 m.A m.ws.length m.k (svs m.ws) rfl (ownS_keep (ownS_keep (ownS_keep AX.out.line.row (Below.refl _ _).drew) B2.out) ((Below.refl _ _).alloc (Nat.le_refl _) _)) (some ⟨w2.heap.size, 0, none⟩) 1 1 (svs [⟨T, u, r, C, ck⟩]) rfl (rd_send w2 ⟨T, u, r, C, ck⟩) (svs_one _) (by unfold maxLen; omega) (by omega) (Nat.zero_le _) ?_
      intro A3 k3 w3 o3 b3 h3
      have hb2 : Below X.heap.size X (w2.alloc (.cells #[.int .i64 (T : Nat), .int .i64 u, .int .i64 r.f, .int .i64 r.a, .int .i64 r.c, .slice C r.vs.length ck, .int .i64 r.t, .int .i64 r.an, .int .i64 r.o] 51)) := below_on (below_on (Below.refl _ _).drew B2.out) ((Below.refl _ _).alloc (Nat.le_refl _) _)
      have hng : ¬ (∃ o, m.A = some ⟨m.g, o, none⟩) := fun ⟨o, e⟩ => (AX.out.ne2 _ o e).1 rfl
      have hnp : ¬ (∃ o, m.A = some ⟨w.heap.size, o, none⟩) := fun ⟨o, e⟩ => Nat.lt_irrefl _ (ownS_lt H.out.line.row _ o e)
      have hG3 := (AX.out.blk.keep hb2).but b3 hng
      have e5 : w3.cell? ⟨m.g, 5, none⟩ = some (.slice m.A m.ws.length m.k) := hG3.cell 5
      have f3 := hG3.frozen
      have l3 := hG3.lt
      have BX3 := hide (But.after hb2 b3)
      have HG3 := hide hG3
      have O3 := hide o3
      have H3 := hide h3
      have B3 := hide b3
      have HNG := hide hng
      have HNP := hide hnp
      clear hb2 hG3 o3 h3 b3 hng hnp
      refine hK.out _ _ ?_ (fun hHeld => ?_)
      · exact hHeld.but B3.out HNG.out HNP.out
      clear hK K
      try simp only [Act.put, List.setIfInBounds_toArray, List.set_cons_zero, List.set_cons_succ]
      refine wpAnyH_take (i := 15) (oi := { dst := some 49, op := _, type := _, pos := _, after := _, guard := _ }) (v := ?v1x23) rfl (by kernel_rfl) (by kernel_rfl) (by kernel_rfl) (fun _ _ _ h => h) (Or.inl ⟨by rfl, ?hy1x23⟩) hHeld ?rest1x23
      case hy1x23 => (intro w hSw; go_simp <;> with_reducible rfl)
      try simp only [Act.put, List.setIfInBounds_toArray, List.set_cons_zero, List.set_cons_succ]
      refine wpAnyH_take (i := 16) (oi := { dst := some 50, op := _, type := _, pos := _, after := _, guard := _ }) (v := ?v1x24) rfl (by kernel_rfl) (by kernel_rfl) (by kernel_rfl) (fun _ _ _ h => h) (Or.inl ⟨by rfl, ?hy1x24⟩) hHeld ?rest1x24
      case hy1x24 => (intro w hSw; go_simp <;> with_reducible rfl)
      try simp only [Act.put, List.setIfInBounds_toArray, List.set_cons_zero, List.set_cons_succ]
      refine wpAnyH_ready (rs := [17]) (by kernel_rfl) (by simp) (AllReadyH.cons (o := { dst := none, op := _, type := _, pos := _, after := _, guard := _ }) rfl (fun K hK => ?_) AllReadyH.nil)
      go_simp
      go_wp2_with fail
      refine hK.out _ _ ?_ (fun hHeld => ?_)
      · exact hHeld.set5 hpg _
      clear hK K
      try simp only [Act.put, List.setIfInBounds_toArray, List.set_cons_zero, List.set_cons_succ]
      refine wpAnyH_done (by kernel_rfl) ?_ _
    case' way1x20x13 =>
      go_simp
      go_wp2_with fail
      refine hK.out _ _ ?_ (fun hHeld => ?_)
      · exact hHeld.keep ((Below.refl _ _).alloc (Nat.le_refl _) _)
      clear hK K
      try simp only [Act.put, List.setIfInBounds_toArray, List.set_cons_zero, List.set_cons_succ]
      refine wpAnyH_ready (rs := [4]) (by kernel_rfl) (by simp) (AllReadyH.cons (o := { dst := some 38, op := _, type := _, pos := _, after := _, guard := _ }) rfl (fun K hK => ?_) AllReadyH.nil)
      go_simp
      go_wp2_with fail
      refine hK.out _ _ ?_ (fun hHeld => ?_)
      · exact hHeld
      clear hK K
      try simp only [Act.put, List.setIfInBounds_toArray, List.set_cons_zero, List.set_cons_succ]
      refine wpAnyH_ready (rs := [14]) (by kernel_rfl) (by simp) (AllReadyH.cons (o := { dst := some 48, op := _, type := _, pos := _, after := _, guard := _ }) rfl (fun K hK => ?_) AllReadyH.nil)
      rw [if_pos (by rfl)]
      refine op_appS (.tmp 38) (.tmp 47) 43 rfl 51 _ 9 88 Try.underlying43 send_info3 rfl (by decide) 0 m.A m.ws.length m.k (svs m.ws) rfl (ownS_keep (ownS_keep (ownS_keep AX.out.line.row (Below.refl _ _).drew) B2.out) ((Below.refl _ _).alloc (Nat.le_refl _) _)) (some ⟨w2.heap.size, 0, none⟩) 1 1 (svs [⟨T, u, r, C, ck⟩]) rfl (rd_send w2 ⟨T, u, r, C, ck⟩) (svs_one _) (by unfold maxLen; omega) (by omega) (Nat.zero_le _) ?_
      intro A3 k3 w3 o3 b3 h3
      have hb2 : Below X.heap.size X (w2.alloc (.cells #[.int .i64 (T : Nat), .int .i64 u, .int .i64 r.f, .int .i64 r.a, .int .i64 r.c, .slice C r.vs.length ck, .int .i64 r.t, .int .i64 r.an, .int .i64 r.o] 51)) := below_on (below_on (Below.refl _ _).drew B2.out) ((Below.refl _ _).alloc (Nat.le_refl _) _)
      have hng : ¬ (∃ o, m.A = some ⟨m.g, o, none⟩) := fun ⟨o, e⟩ => (AX.out.ne2 _ o e).1 rfl
      have hnp : ¬ (∃ o, m.A = some ⟨w.heap.size, o, none⟩) := fun ⟨o, e⟩ => Nat.lt_irrefl _ (ownS_lt H.out.line.row _ o e)
      have hG3 := (AX.out.blk.keep hb2).but b3 hng
      have e5 : w3.cell? ⟨m.g, 5, none⟩ = some (.slice m.A m.ws.length m.k) := hG3.cell 5
      have f3 := hG3.frozen
      have l3 := hG3.lt
      have BX3 := hide (But.after hb2 b3)
      have HG3 := hide hG3
      have O3 := hide o3
      have H3 := hide h3
      have B3 := hide b3
      have HNG := hide hng
      have HNP := hide hnp
      clear hb2 hG3 o3 h3 b3 hng hnp
      refine hK.out _ _ ?_ (fun hHeld => ?_)
      · exact hHeld.but B3.out HNG.out HNP.out
      clear hK K
      try simp only [Act.put, List.setIfInBounds_toArray, List.set_cons_zero, List.set_cons_succ]
      refine wpAnyH_take (i := 15) (oi := { dst := some 49, op := _, type := _, pos := _, after := _, guard := _ }) (v := ?v1x28) rfl (by kernel_rfl) (by kernel_rfl) (by kernel_rfl) (fun _ _ _ h => h) (Or.inl ⟨by rfl, ?hy1x28⟩) hHeld ?rest1x28
      case hy1x28 => (intro w hSw; go_simp <;> with_reducible rfl)
      try simp only [Act.put, List.setIfInBounds_toArray, List.set_cons_zero, List.set_cons_succ]
      refine wpAnyH_take (i := 16) (oi := { dst := some 50, op := _, type := _, pos := _, after := _, guard := _ }) (v := ?v1x29) rfl (by kernel_rfl) (by kernel_rfl) (by kernel_rfl) (fun _ _ _ h => h) (Or.inl ⟨by rfl, ?hy1x29⟩) hHeld ?rest1x29
      case hy1x29 => (intro w hSw; go_simp <;> with_reducible rfl)
      try simp only [Act.put, List.setIfInBounds_toArray, List.set_cons_zero, List.set_cons_succ]
      refine wpAnyH_ready (rs := [17]) (by kernel_rfl) (by simp) (AllReadyH.cons (o := { dst := none, op := _, type := _, pos := _, after := _, guard := _ }) rfl (fun K hK => ?_) AllReadyH.nil)
      go_simp
      go_wp2_with fail
      refine hK.out _ _ ?_ (fun hHeld => ?_)
      · exact hHeld.set5 hpg _
      clear hK K
      try simp only [Act.put, List.setIfInBounds_toArray, List.set_cons_zero, List.set_cons_succ]
      refine wpAnyH_done (by kernel_rfl) ?_ _
  all_goals
    have r4 := hHeld.1
    clear hHeld k4 z0 z1 z2 z3 z4 z5 z6
    go_wp2
    go_ret2
    have hyo : SM.own w3 ⟨T, u, r, C, ck⟩ := by
      have h1 := own_baseN O2.out (base' := 0) (fun _ _ _ => Nat.zero_le _)
      have h2 := own_keep h1 ((Below.refl _ _).alloc (Nat.le_refl _) _ : Below w2.heap.size w2 (w2.alloc (.cells #[.int .i64 (T : Nat), .int .i64 u, .int .i64 r.f, .int .i64 r.a, .int .i64 r.c, .slice C r.vs.length ck, .int .i64 r.t, .int .i64 r.an, .int .i64 r.o] 51)))
      exact own_but h2 B3.out (fun b' o' e' ⟨o'', e''⟩ => by
        have l1 := ownS_lt AX.out.line.row _ o'' e''
        have l2 := own_newAt O2.out b' o' e'
        have l3 : X.drew.heap.size = X.heap.size := rfl
        omega)
    have hs2 : X.heap.size ≤ w2.heap.size := B2.out.size
    exact RetAsk.ok HE.out HT.out B1.out BX.out AX.out BX3.out HG3.out O3.out (H3.out.imp id (fun h => h.old (by show w.heap.size ≤ (w2.heap.push _).size; rw [Array.size_push]; have := B1.out.size; have := BX.out.size; omega))) hyo

theorem msAsk_any (m : ML) (s : MSt) (u : Int) (r : Rq) (A : Option Addr) (k : Nat) (w : World) (h : MsA w m s) (hr : Rd w A r.vs.length (iv r.vs)) (hl : r.vs.length ≤ 1000000) (hn : s.next ≤ 1000000) (hoff : Off m.S A) :
    Calls Try.prog 12 #[.pointer (some ⟨m.g, 0, none⟩), .int .i64 u, .agg #[.int .i64 r.f, .int .i64 r.a, .int .i64 r.c, .slice A r.vs.length k, .int .i64 r.t, .int .i64 r.an, .int .i64 r.o]] w (RetAsk m s u r w) := by
  by_cases hu : u < 0 ∨ 247 < u
  · exact msAsk_unit m s u r A k w h hu
  cases hm : r.may
  · exact msAsk_may m s u r A k w h (by omega) (by omega) hr hl hm
  by_cases hf : 64 ≤ s.line.length
  · exact msAsk_full m s u r A k w h (by omega) (by omega) hr hl hm hf
  · exact msAsk_ok m s u r A k w h (by omega) (by omega) hr hl hm (by omega) hn hoff
end Go.Proofs.Ytnialjikpoembaa
