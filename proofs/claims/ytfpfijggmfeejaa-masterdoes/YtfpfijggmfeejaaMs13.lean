/-
  What is proved here: what master's Ask answers, and what becomes of the master. Condition: the Values of the request are at most a million, and so were the tickets. ALSO: what master's Came answers, and what becomes of the master. Condition: the master keeps to MOk. ALSO: layer 7's read, and its awake (the document's examples) is true. No condition of its own.
-/
import Derived.Test.YtfpfijggmfeejaaMs10
import Derived.Test.YtfpfijggmfeejaaPdu1
import Derived.Test.YtfpfijggmfeejaaPdu17
namespace Go.Proofs.Ytfpfijggmfeejaa
set_option linter.unusedVariables false
set_option linter.unusedSimpArgs false
open Go.RowKit Go.Maps

/-- What Ask answers. -/
def RetAsk (m : ML) (s : MSt) (u : Int) (r : Rq) (w : World) (e : Ending) (w' : World) : Prop :=
  ∃ m' : ML, e = .returned (.tuple #[.int .i64 (askT s u r), .int .i64 (askE s u r)]) ∧ MsA w' m' (askS s u r) ∧ m'.g = m.g ∧ m'.n = m.n ∧ But m.S w w' ∧ ∀ i, m'.S i → m.S i ∨ w.heap.size ≤ i
theorem RetAsk.no {m : ML} {s : MSt} {u : Int} {r : Rq} {w w' : World} {E : Int} (h : MsA w m s) (b : Below w.heap.size w w') (hE : askE s u r = E) (h0 : E ≠ 0) : RetAsk m s u r w (.returned (.tuple #[.int .i64 0, .int .i64 E])) w' := by
  refine ⟨m, ?_, ?_, rfl, rfl, But.ofBelow b _, fun i h => Or.inl h⟩
  · unfold askT
    rw [hE, if_neg h0]
  · unfold askS
    rw [hE, if_neg h0]
    exact h.keep b
/-- One more waits. -/
theorem MsA.asked {w w' : World} {m : ML} {s : MSt} (h : MsA w m s) (b : But (fun i => i = m.g ∨ ∃ o, m.A = some ⟨i, o, none⟩) w w') (A' : Option Addr) (k' : Nat) (y : SM) (hblk : Blk w' m.g 68 (mcs { m with A := A', k := k', ws := m.ws ++ [y] } s))
    (hrow : w'.ownsRow 0 51 9 (.slice A' (m.ws ++ [y]).length k') (m.ws ++ [y]).length (svs (m.ws ++ [y]))) (hy : y.own w') : MsA w' { m with A := A', k := k', ws := m.ws ++ [y] } { s with line := s.line ++ [y.wt] } := by
  have hS : ∀ i, (i = m.g ∨ ∃ o, m.A = some ⟨i, o, none⟩) → m.S i := fun i e => e.elim Or.inl (fun e => Or.inr (Or.inr (Or.inl e)))
  refine ⟨hblk, ⟨hrow, fun x hx => ?_⟩, by show List.map SM.wt (m.ws ++ [y]) = _; rw [List.map_append, h.wl]; rfl, ?_, map_but h.mp b ?_, h.rests⟩
  · rcases List.mem_append.1 hx with hx | hx
    · exact (h.line.own x hx).but b (fun b' o' e' h' => h.off (h.line.own x hx) b' o' e' (hS _ h'))
    · simp at hx
      subst hx
      exact hy
  · refine h.out.but b (fun b' y' e => ⟨?_, ?_⟩)
    · obtain ⟨n1, n2, n3⟩ := h.ne3 b' y' e
      rintro (e' | ⟨o, e'⟩)
      · exact n1 e'
      · exact n3 b' o e' rfl
    · obtain ⟨t, _, ho⟩ := h.out.lay e
      exact fun b'' o'' e'' h'' => h.off ho b'' o'' e'' (hS _ h'')
  · rintro (e' | ⟨o, e'⟩)
    · exact h.ne1 e'.symm
    · exact (h.ne2 _ o e').2 rfl

theorem msAsk_unit (m : ML) (s : MSt) (u : Int) (r : Rq) (A : Option Addr) (k : Nat) (w : World) (h : MsA w m s) (hu : u < 0 ∨ 247 < u) :
    Calls Try.prog 9 #[.pointer (some ⟨m.g, 0, none⟩), .int .i64 u, .agg #[.int .i64 r.f, .int .i64 r.a, .int .i64 r.c, .slice A r.vs.length k, .int .i64 r.t, .int .i64 r.an, .int .i64 r.o]] w (RetAsk m s u r w) := by
  have hE : askE s u r = 1 := by
    unfold askE
    rw [if_pos (by omega)]
  have H := hide h
  have HE := hide hE
  clear h hE
  by_cases h0 : u < 0
  · have q := decide_eq_true h0
    clear hu h0
    go_enter Try.func9, Try.ntmps9
    go_wp2
    go_ret2
    exact RetAsk.no H.out ((Below.refl _ _).alloc (Nat.le_refl _) _) HE.out (by omega)
  · have q : decide (u < 0) = false := decide_eq_false h0
    have q2 : decide (247 < u) = true := decide_eq_true (by omega)
    clear hu h0
    go_enter Try.func9, Try.ntmps9
    go_wp2
    go_ret2
    exact RetAsk.no H.out ((Below.refl _ _).alloc (Nat.le_refl _) _) HE.out (by omega)
theorem msAsk_may (m : ML) (s : MSt) (u : Int) (r : Rq) (A : Option Addr) (k : Nat) (w : World) (h : MsA w m s) (hu : 0 ≤ u) (hu' : u ≤ 247) (hr : Rd w A r.vs.length (iv r.vs)) (hl : r.vs.length ≤ 1000000) (hm : r.may = false) :
    Calls Try.prog 9 #[.pointer (some ⟨m.g, 0, none⟩), .int .i64 u, .agg #[.int .i64 r.f, .int .i64 r.a, .int .i64 r.c, .slice A r.vs.length k, .int .i64 r.t, .int .i64 r.an, .int .i64 r.o]] w (RetAsk m s u r w) := by
  have hE : askE s u r = 1 := by
    unfold askE
    rw [if_pos (Or.inr (Or.inr hm))]
  have H := hide h
  have HE := hide hE
  have HR := hide hr
  have HM := hide hm
  clear h hE hr hm
  have q : decide (u < 0) = false := decide_eq_false (by omega)
  have q2 : decide (247 < u) = false := decide_eq_false (by omega)
  clear hu hu'
  go_enter Try.func9, Try.ntmps9
  go_wp2_with fail
  generalize hV : w.alloc _ = V
  obtain ⟨zV, bV⟩ := box1 w 37 (rqv r A k) V hV.symm
  clear hV
  have hc := check_any r.f r.a r.c r.t r.an r.o A r.vs.length k r.vs V (HR.out.keep bV) hl
  have hM2 : mayB r.f r.a r.c r.vs r.t r.an r.o = false := HM.out
  rw [hM2] at hc
  refine hc.mono ?_
  rintro e w1 ⟨rfl, b1⟩
  have Z1 := hide (zV.keep b1)
  have B1 := hide (below_on bV b1)
  clear zV bV b1 hc hM2
  go_wp2
  go_ret2
  exact RetAsk.no H.out B1.out HE.out (by omega)
theorem msAsk_full (m : ML) (s : MSt) (u : Int) (r : Rq) (A : Option Addr) (k : Nat) (w : World) (h : MsA w m s) (hu : 0 ≤ u) (hu' : u ≤ 247) (hr : Rd w A r.vs.length (iv r.vs)) (hl : r.vs.length ≤ 1000000) (hm : r.may = true) (hf : 64 ≤ s.line.length) :
    Calls Try.prog 9 #[.pointer (some ⟨m.g, 0, none⟩), .int .i64 u, .agg #[.int .i64 r.f, .int .i64 r.a, .int .i64 r.c, .slice A r.vs.length k, .int .i64 r.t, .int .i64 r.an, .int .i64 r.o]] w (RetAsk m s u r w) := by
  have hE : askE s u r = 6 := by
    unfold askE
    rw [if_neg (by rw [hm]; simp; omega), if_pos hf]
  have hwl : m.ws.length = s.line.length := by rw [← h.wl, List.length_map]
  have H := hide h
  have HE := hide hE
  have HR := hide hr
  have HM := hide hm
  clear h hE hr hm
  have q : decide (u < 0) = false := decide_eq_false (by omega)
  have q2 : decide (247 < u) = false := decide_eq_false (by omega)
  clear hu hu'
  go_enter Try.func9, Try.ntmps9
  go_wp2_with fail
  generalize hV : w.alloc _ = V
  obtain ⟨zV, bV⟩ := box1 w 37 (rqv r A k) V hV.symm
  clear hV
  have hc := check_any r.f r.a r.c r.t r.an r.o A r.vs.length k r.vs V (HR.out.keep bV) hl
  have hM2 : mayB r.f r.a r.c r.vs r.t r.an r.o = true := HM.out
  rw [hM2] at hc
  refine hc.mono ?_
  rintro e w1 ⟨rfl, b1⟩
  have Z1 := hide (zV.keep b1)
  have B1 := hide (below_on bV b1)
  clear zV bV b1 hc hM2
  have c5 : w1.cell? ⟨m.g, 5, none⟩ = some (.slice m.A m.ws.length m.k) := (H.out.keep B1.out).blk.cell 5
  have q3 : (64 : Int) ≤ (m.ws.length : Int) := by omega
  clear hf hwl
  go_wp2
  go_ret2
  exact RetAsk.no H.out B1.out HE.out (by omega)
theorem rd_send (w : World) (y : SM) : Rd (w.alloc (.cells (arr y.vs) 51)) (some ⟨w.heap.size, 0, none⟩) (1 * 9) (svs [y]) := by
  have e : svs [y] = y.vs := by show y.vs ++ [] = _; rw [List.append_nil]
  rw [e]
  exact (Blk.new w 51 y.vs).rd
theorem RetAsk.ok {m : ML} {s : MSt} {u : Int} {r : Rq} {w w1 X w3 : World} {T : Nat} {A3 C : Option Addr} {k3 ck : Nat} (hE : askE s u r = 0) (hT : s.next + 1 = T) (b1 : Below w.heap.size w w1) (bX : But (fun i => i = m.g) w1 X) (hA : MsA X m { s with next := T })
    (b3 : But (fun i => ∃ o, m.A = some ⟨i, o, none⟩) X w3) (hG : Blk w3 m.g 68 (mcs m { s with next := T })) (o3 : w3.ownsRow 0 51 9 (.slice A3 (m.ws.length + 1) k3) (m.ws.length + 1) (svs m.ws ++ svs [⟨T, u, r, C, ck⟩])) (h3 : A3 = m.A ∨ NewAt w A3) (hy : SM.own w3 ⟨T, u, r, C, ck⟩) :
    RetAsk m s u r w (.returned (.tuple #[.int .i64 (T : Nat), .int .i64 0])) (w3.setCell ⟨m.g, 5, none⟩ (.slice A3 (m.ws.length + 1) k3)) := by
  have hlen : (m.ws ++ [(⟨T, u, r, C, ck⟩ : SM)]).length = m.ws.length + 1 := by simp
  have hY : But (fun i => i = m.g) w3 (w3.setCell ⟨m.g, 5, none⟩ (.slice A3 (m.ws.length + 1) k3)) := But.setCell w3 _ rfl
  have hap : ∀ b o, A3 = some ⟨b, o, none⟩ → b ≠ m.g := fun b o e => own_ne o3 hG (by decide) e
  have hb : But (fun i => i = m.g ∨ ∃ o, m.A = some ⟨i, o, none⟩) X (w3.setCell ⟨m.g, 5, none⟩ (.slice A3 (m.ws.length + 1) k3)) := (b3.wide (fun i e => Or.inr e)).trans hY (fun i _ e => Or.inl e)
  have hM := hA.asked hb A3 k3 ⟨T, u, r, C, ck⟩ (by
    have := hG.set 5 (.slice A3 (m.ws.length + 1) k3)
    have e : mcs { m with A := A3, k := k3, ws := m.ws ++ [(⟨T, u, r, C, ck⟩ : SM)] } { s with next := T } = (mcs m { s with next := T }).set 5 (.slice A3 (m.ws.length + 1) k3) := by
      show [_, _, _, _, _, _, _, _] = [_, _, _, _, _, _, _, _]
      simp only [hlen]
    rw [e]
    exact this) (by
    rw [hlen, svs_append]
    exact ownS_but o3 hY hap) (hy.but hY (fun b o e h' => own_ne hy hG (by decide) e h'))
  refine ⟨{ m with A := A3, k := k3, ws := m.ws ++ [(⟨T, u, r, C, ck⟩ : SM)] }, ?_, ?_, rfl, rfl, ?_, ?_⟩
  · unfold askT
    rw [hE, if_pos rfl, hT]
  · unfold askS
    rw [hE, if_pos rfl, hT]
    exact hM
  · have h1 : But m.S w X := (But.ofBelow b1 m.S).trans bX (fun i _ e => Or.inl e)
    exact h1.trans hb (fun i _ e => e.elim Or.inl (fun e => Or.inr (Or.inr (Or.inl e))))
  · rintro i (h | h | ⟨o, h⟩ | ⟨y, h⟩)
    · exact Or.inl (Or.inl h)
    · exact Or.inl (Or.inr (Or.inl h))
    · rcases h3 with rfl | h3
      · exact Or.inl (Or.inr (Or.inr (Or.inl ⟨o, h⟩)))
      · exact Or.inr (h3 i o h)
    · exact Or.inl (Or.inr (Or.inr (Or.inr ⟨y, h⟩)))
/-- What is read while a request is laid behind those that wait. -/
def AskQ (g p : Nat) (T : Value) (cs : List Value) (w : World) : Prop := w.cell? ⟨g, 4, none⟩ = some T ∧ Blk w p 37 cs ∧ g < w.heap.size
theorem AskQ.keep {g p : Nat} {T : Value} {cs : List Value} {w w' : World} (h : AskQ g p T cs w) (b : Below w.heap.size w w') : AskQ g p T cs w' := ⟨(b.cell (p := ⟨g, 4, none⟩) h.2.2).trans h.1, h.2.1.keep b, Nat.lt_of_lt_of_le h.2.2 b.size⟩
theorem AskQ.but {S : Nat → Prop} {g p : Nat} {T : Value} {cs : List Value} {w w' : World} (h : AskQ g p T cs w) (b : But S w w') (hg : ¬ S g) (hp : ¬ S p) : AskQ g p T cs w' := ⟨(World.cell?_of_block (w := w) (b.block g h.2.2 hg)).trans h.1, h.2.1.but b hp, Nat.lt_of_lt_of_le h.2.2 b.size⟩
theorem AskQ.set5 {g p : Nat} {T : Value} {cs : List Value} {w : World} (h : AskQ g p T cs w) (hp : p ≠ g) (v : Value) : AskQ g p T cs (w.setCell ⟨g, 5, none⟩ v) := by
  refine ⟨?_, h.2.1.oth hp.symm _ _, by simpa using h.2.2⟩
  have := h.1
  simp [World.cell?_setCell_other, this]
set_option maxRecDepth 100000 in
set_option maxHeartbeats 2000000 in
theorem msAsk_ok (m : ML) (s : MSt) (u : Int) (r : Rq) (A : Option Addr) (k : Nat) (w : World) (h : MsA w m s) (hu : 0 ≤ u) (hu' : u ≤ 247) (hr : Rd w A r.vs.length (iv r.vs)) (hl : r.vs.length ≤ 1000000) (hm : r.may = true) (hf : s.line.length < 64) (hn : s.next ≤ 1000000) (hoff : 0 < r.vs.length → Off m.S A) :
    Calls Try.prog 9 #[.pointer (some ⟨m.g, 0, none⟩), .int .i64 u, .agg #[.int .i64 r.f, .int .i64 r.a, .int .i64 r.c, .slice A r.vs.length k, .int .i64 r.t, .int .i64 r.an, .int .i64 r.o]] w (RetAsk m s u r w) := by
  have hE : askE s u r = 0 := by
    unfold askE
    rw [if_neg (by rw [hm]; simp; omega), if_neg (by omega)]
  have hwl : m.ws.length = s.line.length := by rw [← h.wl, List.length_map]
  have H := hide h
  have HE := hide hE
  have HR := hide hr
  have HM := hide hm
  clear h hE hr hm
  have q : decide (u < 0) = false := decide_eq_false (by omega)
  have q2 : decide (247 < u) = false := decide_eq_false (by omega)
  clear hu hu'
  go_enter Try.func9, Try.ntmps9
  go_wp2_with fail
  generalize hV : w.alloc _ = V
  obtain ⟨zV, bV⟩ := box1 w 37 (rqv r A k) V hV.symm
  clear hV
  have hc := check_any r.f r.a r.c r.t r.an r.o A r.vs.length k r.vs V (HR.out.keep bV) hl
  have hM2 : mayB r.f r.a r.c r.vs r.t r.an r.o = true := HM.out
  rw [hM2] at hc
  refine hc.mono ?_
  rintro e w1 ⟨rfl, b1⟩
  have Z1 := hide (zV.keep b1)
  have B1 := hide (below_on bV b1)
  clear zV bV b1 hc hM2
  have hA1 := H.out.keep B1.out
  have c5 : w1.cell? ⟨m.g, 5, none⟩ = some (.slice m.A m.ws.length m.k) := hA1.blk.cell 5
  have c4 : w1.cell? ⟨m.g, 4, none⟩ = some (.int .i64 (s.next : Nat)) := hA1.blk.cell 4
  have fz := hA1.blk.frozen
  have q3 : ¬ (64 : Int) ≤ (m.ws.length : Int) := by omega
  obtain ⟨T, hT⟩ : ∃ T : Nat, s.next + 1 = T := ⟨_, rfl⟩
  have q4 : IntKind.i64.wrap ((s.next : Int) + 1) = (T : Int) := by rw [IntKind.wrap_i64]; omega
  have A1 := hide hA1
  have HWL := hide hwl
  have HT := hide hT
  have HOF := hide hoff
  have hw64 : m.ws.length ≤ 64 := by omega
  clear hA1 hf hT hoff hwl hn
  go_wp2_with fail
  have hX : But (fun i => i = m.g) w1 (w1.setCell ⟨m.g, 4, none⟩ (.int .i64 (T : Nat))) := But.setCell w1 _ rfl
  have hAX : MsA (w1.setCell ⟨m.g, 4, none⟩ (.int .i64 (T : Nat))) m { s with next := T } := A1.out.turnG hX _ (A1.out.blk.set 4 _) rfl rfl rfl A1.out.rests
  have hpg : w.heap.size ≠ m.g := Z1.out.ne A1.out.blk (by decide)
  have hZX := Z1.out.but hX hpg
  clear c5 c4 fz
  generalize w1.setCell ⟨m.g, 4, none⟩ (.int .i64 (T : Nat)) = X at *
  have c5 : X.cell? ⟨m.g, 5, none⟩ = some (.slice m.A m.ws.length m.k) := hAX.blk.cell 5
  have hq0 : AskQ m.g w.heap.size (.int .i64 (T : Nat)) (rqv r A k) X.drew := ⟨hAX.blk.cell 4, hZX, hAX.blk.lt⟩
  have k4 : ∀ w', AskQ m.g w.heap.size (.int .i64 (T : Nat)) (rqv r A k) w' → w'.cell? ⟨m.g, 4, none⟩ = some (.int .i64 (T : Nat)) := fun w' h => h.1
  have z0 : ∀ w', AskQ m.g w.heap.size (.int .i64 (T : Nat)) (rqv r A k) w' → w'.cell? ⟨w.heap.size, 0, none⟩ = some (.int .i64 r.f) := fun w' h => h.2.1.cell 0
  have z1 : ∀ w', AskQ m.g w.heap.size (.int .i64 (T : Nat)) (rqv r A k) w' → w'.cell? ⟨w.heap.size, 1, none⟩ = some (.int .i64 r.a) := fun w' h => h.2.1.cell 1
  have z2 : ∀ w', AskQ m.g w.heap.size (.int .i64 (T : Nat)) (rqv r A k) w' → w'.cell? ⟨w.heap.size, 2, none⟩ = some (.int .i64 r.c) := fun w' h => h.2.1.cell 2
  have z3 : ∀ w', AskQ m.g w.heap.size (.int .i64 (T : Nat)) (rqv r A k) w' → w'.cell? ⟨w.heap.size, 3, none⟩ = some (.slice A r.vs.length k) := fun w' h => h.2.1.cell 3
  have z4 : ∀ w', AskQ m.g w.heap.size (.int .i64 (T : Nat)) (rqv r A k) w' → w'.cell? ⟨w.heap.size, 4, none⟩ = some (.int .i64 r.t) := fun w' h => h.2.1.cell 4
  have z5 : ∀ w', AskQ m.g w.heap.size (.int .i64 (T : Nat)) (rqv r A k) w' → w'.cell? ⟨w.heap.size, 5, none⟩ = some (.int .i64 r.an) := fun w' h => h.2.1.cell 5
  have z6 : ∀ w', AskQ m.g w.heap.size (.int .i64 (T : Nat)) (rqv r A k) w' → w'.cell? ⟨w.heap.size, 6, none⟩ = some (.int .i64 r.o) := fun w' h => h.2.1.cell 6
  have hgX : m.g < X.heap.size := hAX.blk.lt
  have hrd : Rd X.drew A r.vs.length (iv r.vs) := by
    rcases Nat.eq_zero_or_pos r.vs.length with h0 | h0
    · exact ⟨HR.out.1, fun h1 => by omega⟩
    · exact (((HR.out.keep B1.out).but hX (fun b o e h' => HOF.out h0 b o e (Or.inl h'))).keep (Below.refl _ _).drew)
  have HCP := hide (copied_any r A k X.drew hrd hl)
  have AX := hide hAX
  have BX := hide hX
  clear hAX hX hZX hrd
  refine wp_region_held_drew (S := AskQ m.g w.heap.size (.int .i64 (T : Nat)) (rqv r A k)) (by kernel_rfl) ?_ (fun hHeld => ?_)
  · exact hq0
  refine wpAnyH_take (i := 0) (oi := { dst := some 34, op := _, type := _, pos := _, after := _, guard := _ }) (v := ?v1x1) rfl (by kernel_rfl) (by kernel_rfl) (by kernel_rfl) (fun _ _ _ h => h) (Or.inl ⟨by rfl, ?hy1x1⟩) hHeld ?rest1x1
  case hy1x1 => (intro w hSw; go_simp <;> with_reducible rfl)
  try simp only [Act.put, List.setIfInBounds_toArray, List.set_cons_zero, List.set_cons_succ]
  refine wpAnyH_take (i := 1) (oi := { dst := some 35, op := _, type := _, pos := _, after := _, guard := _ }) (v := ?v1x2) rfl (by kernel_rfl) (by kernel_rfl) (by kernel_rfl) (fun _ _ _ h => h) (Or.inl ⟨by rfl, ?hy1x2⟩) hHeld ?rest1x2
  case hy1x2 => (intro w hSw; go_simp <;> with_reducible rfl)
  try simp only [Act.put, List.setIfInBounds_toArray, List.set_cons_zero, List.set_cons_succ]
  refine wpAnyH_take (i := 2) (oi := { dst := some 36, op := _, type := _, pos := _, after := _, guard := _ }) (v := ?v1x3) rfl (by kernel_rfl) (by kernel_rfl) (by kernel_rfl) (fun _ _ _ h => h) (Or.inl ⟨by rfl, ?hy1x3⟩) hHeld ?rest1x3
  case hy1x3 => (intro w hSw; go_simp <;> with_reducible rfl)
  try simp only [Act.put, List.setIfInBounds_toArray, List.set_cons_zero, List.set_cons_succ]
  refine wpAnyH_take (i := 3) (oi := { dst := some 37, op := _, type := _, pos := _, after := _, guard := _ }) (v := ?v1x4) rfl (by kernel_rfl) (by kernel_rfl) (by kernel_rfl) (fun _ _ _ h => h) (Or.inl ⟨by rfl, ?hy1x4⟩) hHeld ?rest1x4
  case hy1x4 => (intro w hSw; go_simp <;> with_reducible rfl)
  try simp only [Act.put, List.setIfInBounds_toArray, List.set_cons_zero, List.set_cons_succ]
  refine wpAnyH_take (i := 5) (oi := { dst := some 39, op := _, type := _, pos := _, after := _, guard := _ }) (v := ?v1x5) rfl (by kernel_rfl) (by kernel_rfl) (by kernel_rfl) (fun _ _ _ h => h) (Or.inl ⟨by rfl, ?hy1x5⟩) hHeld ?rest1x5
  case hy1x5 => (intro w hSw; go_simp <;> with_reducible rfl)
  try simp only [Act.put, List.setIfInBounds_toArray, List.set_cons_zero, List.set_cons_succ]
  refine wpAnyH_take (i := 6) (oi := { dst := some 40, op := _, type := _, pos := _, after := _, guard := _ }) (v := ?v1x6) rfl (by kernel_rfl) (by kernel_rfl) (by kernel_rfl) (fun _ _ _ h => h) (Or.inl ⟨by rfl, ?hy1x6⟩) hHeld ?rest1x6
  case hy1x6 => (intro w hSw; go_simp <;> with_reducible rfl)
  try simp only [Act.put, List.setIfInBounds_toArray, List.set_cons_zero, List.set_cons_succ]
  refine wpAnyH_take (i := 7) (oi := { dst := some 41, op := _, type := _, pos := _, after := _, guard := _ }) (v := ?v1x7) rfl (by kernel_rfl) (by kernel_rfl) (by kernel_rfl) (fun _ _ _ h => h) (Or.inl ⟨by rfl, ?hy1x7⟩) hHeld ?rest1x7
  case hy1x7 => (intro w hSw; go_simp <;> with_reducible rfl)
  try simp only [Act.put, List.setIfInBounds_toArray, List.set_cons_zero, List.set_cons_succ]
  refine wpAnyH_take (i := 8) (oi := { dst := some 42, op := _, type := _, pos := _, after := _, guard := _ }) (v := ?v1x8) rfl (by kernel_rfl) (by kernel_rfl) (by kernel_rfl) (fun _ _ _ h => h) (Or.inl ⟨by rfl, ?hy1x8⟩) hHeld ?rest1x8
  case hy1x8 => (intro w hSw; go_simp <;> with_reducible rfl)
  try simp only [Act.put, List.setIfInBounds_toArray, List.set_cons_zero, List.set_cons_succ]
  refine wpAnyH_take (i := 9) (oi := { dst := some 43, op := _, type := _, pos := _, after := _, guard := _ }) (v := ?v1x9) rfl (by kernel_rfl) (by kernel_rfl) (by kernel_rfl) (fun _ _ _ h => h) (Or.inl ⟨by rfl, ?hy1x9⟩) hHeld ?rest1x9
  case hy1x9 => (intro w hSw; go_simp <;> with_reducible rfl)
  try simp only [Act.put, List.setIfInBounds_toArray, List.set_cons_zero, List.set_cons_succ]
  refine wpAnyH_take (i := 10) (oi := { dst := some 44, op := _, type := _, pos := _, after := _, guard := _ }) (v := ?v1x10) rfl (by kernel_rfl) (by kernel_rfl) (by kernel_rfl) (fun _ _ _ h => h) (Or.inl ⟨by rfl, ?hy1x10⟩) hHeld ?rest1x10
  case hy1x10 => (intro w hSw; go_simp <;> with_reducible rfl)
  try simp only [Act.put, List.setIfInBounds_toArray, List.set_cons_zero, List.set_cons_succ]
  refine wpAnyH_ready (rs := [4, 11]) (by kernel_rfl) (by simp) (AllReadyH.cons (o := { dst := some 38, op := _, type := _, pos := _, after := _, guard := _ }) rfl (fun K hK => ?way1x11x4) (AllReadyH.cons (o := { dst := some 45, op := _, type := _, pos := _, after := _, guard := _ }) rfl (fun K hK => ?way1x11x11) AllReadyH.nil))
  case' way1x11x4 =>
    go_simp
    go_wp2_with fail
    refine hK.out _ _ ?_ (fun hHeld => ?_)
    · exact hHeld
    clear hK K
    try simp only [Act.put, List.setIfInBounds_toArray, List.set_cons_zero, List.set_cons_succ]
    refine wpAnyH_ready (rs := [11]) (by kernel_rfl) (by simp) (AllReadyH.cons (o := { dst := some 45, op := _, type := _, pos := _, after := _, guard := _ }) rfl (fun K hK => ?_) AllReadyH.nil)
    go_simp
    refine HCP.out.mono ?_
    rintro e w2 ⟨C, ck, rfl, o2, n2, b2⟩
    have k5 : w2.cell? ⟨m.g, 5, none⟩ = some (.slice m.A m.ws.length m.k) := (b2.cell (p := ⟨m.g, 5, none⟩) hgX).trans c5
    have hg2 : m.g < w2.heap.size := Nat.lt_of_lt_of_le hgX b2.size
    have O2 := hide o2
    have N2 := hide n2
    have B2 := hide b2
    clear o2 n2 b2
    simp only [arr, rqv]
    go_wp2_with fail
    refine hK.out _ _ ?_ (fun hHeld => ?_)
    · exact hHeld.keep B2.out
    clear hK K
    try simp only [Act.put, List.setIfInBounds_toArray, List.set_cons_zero, List.set_cons_succ]
    refine wpAnyH_take (i := 12) (oi := { dst := some 46, op := _, type := _, pos := _, after := _, guard := _ }) (v := ?v1x13) rfl (by kernel_rfl) (by kernel_rfl) (by kernel_rfl) (fun _ _ _ h => h) (Or.inl ⟨by rfl, ?hy1x13⟩) hHeld ?rest1x13
    case hy1x13 => (intro w hSw; go_simp <;> with_reducible rfl)
    try simp only [Act.put, List.setIfInBounds_toArray, List.set_cons_zero, List.set_cons_succ]
    refine wpAnyH_ready (rs := [13]) (by kernel_rfl) (by simp) (AllReadyH.cons (o := { dst := some 47, op := _, type := _, pos := _, after := _, guard := _ }) rfl (fun K hK => ?_) AllReadyH.nil)
    go_simp
    go_wp2_with fail
    refine hK.out _ _ ?_ (fun hHeld => ?_)
    · exact hHeld.keep ((Below.refl _ _).alloc (Nat.le_refl _) _)
    clear hK K
    try simp only [Act.put, List.setIfInBounds_toArray, List.set_cons_zero, List.set_cons_succ]
    refine wpAnyH_ready (rs := [14]) (by kernel_rfl) (by simp) (AllReadyH.cons (o := { dst := some 48, op := _, type := _, pos := _, after := _, guard := _ }) rfl (fun K hK => ?_) AllReadyH.nil)
    rw [if_pos (by rfl)]
    refine op_appS (.tmp 38) (.tmp 47) 43 rfl 51 _ 9 88 Try.underlying43 send_info3 rfl (by decide) 0 m.A m.ws.length m.k (svs m.ws) rfl (ownS_keep (ownS_keep (ownS_keep AX.out.line.row (Below.refl _ _).drew) B2.out) ((Below.refl _ _).alloc (Nat.le_refl _) _)) (some ⟨w2.heap.size, 0, none⟩) 1 1 (svs [⟨T, u, r, C, ck⟩]) rfl (rd_send w2 ⟨T, u, r, C, ck⟩) (svs_one _) (by unfold maxLen; omega) (by omega) (Nat.zero_le _) ?_
    intro A3 k3 w3 o3 b3 h3
    have hb2 : Below X.heap.size X (w2.alloc (.cells #[.int .i64 (T : Nat), .int .i64 u, .int .i64 r.f, .int .i64 r.a, .int .i64 r.c, .slice C r.vs.length ck, .int .i64 r.t, .int .i64 r.an, .int .i64 r.o] 51)) := below_on (below_on (Below.refl _ _).drew B2.out) ((Below.refl _ _).alloc (Nat.le_refl _) _)
    have hng : ¬ (∃ o, m.A = some ⟨m.g, o, none⟩) := fun ⟨o, e⟩ => (AX.out.ne2 _ o e).1 rfl
    have hnp : ¬ (∃ o, m.A = some ⟨w.heap.size, o, none⟩) := fun ⟨o, e⟩ => Nat.lt_irrefl _ (ownS_lt H.out.line.row _ o e)
    have hG3 := (AX.out.blk.keep hb2).but b3 hng
    have e5 : w3.cell? ⟨m.g, 5, none⟩ = some (.slice m.A m.ws.length m.k) := hG3.cell 5
    have f3 := hG3.frozen
    have l3 := hG3.lt
    have BX3 := hide (But.after hb2 b3)
    have HG3 := hide hG3
    have O3 := hide o3
    have H3 := hide h3
    have B3 := hide b3
    have HNG := hide hng
    have HNP := hide hnp
    clear hb2 hG3 o3 h3 b3 hng hnp
    refine hK.out _ _ ?_ (fun hHeld => ?_)
    · exact hHeld.but B3.out HNG.out HNP.out
    clear hK K
    try simp only [Act.put, List.setIfInBounds_toArray, List.set_cons_zero, List.set_cons_succ]
    refine wpAnyH_take (i := 15) (oi := { dst := some 49, op := _, type := _, pos := _, after := _, guard := _ }) (v := ?v1x16) rfl (by kernel_rfl) (by kernel_rfl) (by kernel_rfl) (fun _ _ _ h => h) (Or.inl ⟨by rfl, ?hy1x16⟩) hHeld ?rest1x16
    case hy1x16 => (intro w hSw; go_simp <;> with_reducible rfl)
    try simp only [Act.put, List.setIfInBounds_toArray, List.set_cons_zero, List.set_cons_succ]
    refine wpAnyH_take (i := 16) (oi := { dst := some 50, op := _, type := _, pos := _, after := _, guard := _ }) (v := ?v1x17) rfl (by kernel_rfl) (by kernel_rfl) (by kernel_rfl) (fun _ _ _ h => h) (Or.inl ⟨by rfl, ?hy1x17⟩) hHeld ?rest1x17
    case hy1x17 => (intro w hSw; go_simp <;> with_reducible rfl)
    try simp only [Act.put, List.setIfInBounds_toArray, List.set_cons_zero, List.set_cons_succ]
    refine wpAnyH_ready (rs := [17]) (by kernel_rfl) (by simp) (AllReadyH.cons (o := { dst := none, op := _, type := _, pos := _, after := _, guard := _ }) rfl (fun K hK => ?_) AllReadyH.nil)
    go_simp
    go_wp2_with fail
    refine hK.out _ _ ?_ (fun hHeld => ?_)
    · exact hHeld.set5 hpg _
    clear hK K
    try simp only [Act.put, List.setIfInBounds_toArray, List.set_cons_zero, List.set_cons_succ]
    refine wpAnyH_done (by kernel_rfl) ?_ _
  case' way1x11x11 =>
    go_simp
    refine HCP.out.mono ?_
    rintro e w2 ⟨C, ck, rfl, o2, n2, b2⟩
    have k5 : w2.cell? ⟨m.g, 5, none⟩ = some (.slice m.A m.ws.length m.k) := (b2.cell (p := ⟨m.g, 5, none⟩) hgX).trans c5
    have hg2 : m.g < w2.heap.size := Nat.lt_of_lt_of_le hgX b2.size
    have O2 := hide o2
    have N2 := hide n2
    have B2 := hide b2
    clear o2 n2 b2
    simp only [arr, rqv]
    go_wp2_with fail
    refine hK.out _ _ ?_ (fun hHeld => ?_)
    · exact hHeld.keep B2.out
    clear hK K
    try simp only [Act.put, List.setIfInBounds_toArray, List.set_cons_zero, List.set_cons_succ]
    refine wpAnyH_take (i := 12) (oi := { dst := some 46, op := _, type := _, pos := _, after := _, guard := _ }) (v := ?v1x19) rfl (by kernel_rfl) (by kernel_rfl) (by kernel_rfl) (fun _ _ _ h => h) (Or.inl ⟨by rfl, ?hy1x19⟩) hHeld ?rest1x19
    case hy1x19 => (intro w hSw; go_simp <;> with_reducible rfl)
    try simp only [Act.put, List.setIfInBounds_toArray, List.set_cons_zero, List.set_cons_succ]
    refine wpAnyH_ready (rs := [4, 13]) (by kernel_rfl) (by simp) (AllReadyH.cons (o := { dst := some 38, op := _, type := _, pos := _, after := _, guard := _ }) rfl (fun K hK => ?way1x20x4) (AllReadyH.cons (o := { dst := some 47, op := _, type := _, pos := _, after := _, guard := _ }) rfl (fun K hK => ?way1x20x13) AllReadyH.nil))
    case' way1x20x4 =>
      go_simp
      go_wp2_with fail
      refine hK.out _ _ ?_ (fun hHeld => ?_)
      · exact hHeld
      clear hK K
      try simp only [Act.put, List.setIfInBounds_toArray, List.set_cons_zero, List.set_cons_succ]
      refine wpAnyH_ready (rs := [13]) (by kernel_rfl) (by simp) (AllReadyH.cons (o := { dst := some 47, op := _, type := _, pos := _, after := _, guard := _ }) rfl (fun K hK => ?_) AllReadyH.nil)
      go_simp
      go_wp2_with fail
      refine hK.out _ _ ?_ (fun hHeld => ?_)
      · exact hHeld.keep ((Below.refl _ _).alloc (Nat.le_refl _) _)
      clear hK K
      try simp only [Act.put, List.setIfInBounds_toArray, List.set_cons_zero, List.set_cons_succ]
      refine wpAnyH_ready (rs := [14]) (by kernel_rfl) (by simp) (AllReadyH.cons (o := { dst := some 48, op := _, type := _, pos := _, after := _, guard := _ }) rfl (fun K hK => ?_) AllReadyH.nil)
      rw [if_pos (by rfl)]
      refine op_appS (.tmp 38) (.tmp 47) 43 rfl 51 _ 9 88 Try.underlying43 send_info3 rfl (by decide) 0 m.A m.ws.length m.k (svs m.ws) rfl (ownS_keep (ownS_keep (ownS_keep AX.out.line.row (Below.refl _ _).drew) B2.out) ((Below.refl _ _).alloc (Nat.le_refl _) _)) (some ⟨w2.heap.size, 0, none⟩) 1 1 (svs [⟨T, u, r, C, ck⟩]) rfl (rd_send w2 ⟨T, u, r, C, ck⟩) (svs_one _) (by unfold maxLen; omega) (by omega) (Nat.zero_le _) ?_
      intro A3 k3 w3 o3 b3 h3
      have hb2 : Below X.heap.size X (w2.alloc (.cells #[.int .i64 (T : Nat), .int .i64 u, .int .i64 r.f, .int .i64 r.a, .int .i64 r.c, .slice C r.vs.length ck, .int .i64 r.t, .int .i64 r.an, .int .i64 r.o] 51)) := below_on (below_on (Below.refl _ _).drew B2.out) ((Below.refl _ _).alloc (Nat.le_refl _) _)
      have hng : ¬ (∃ o, m.A = some ⟨m.g, o, none⟩) := fun ⟨o, e⟩ => (AX.out.ne2 _ o e).1 rfl
      have hnp : ¬ (∃ o, m.A = some ⟨w.heap.size, o, none⟩) := fun ⟨o, e⟩ => Nat.lt_irrefl _ (ownS_lt H.out.line.row _ o e)
      have hG3 := (AX.out.blk.keep hb2).but b3 hng
      have e5 : w3.cell? ⟨m.g, 5, none⟩ = some (.slice m.A m.ws.length m.k) := hG3.cell 5
      have f3 := hG3.frozen
      have l3 := hG3.lt
      have BX3 := hide (But.after hb2 b3)
      have HG3 := hide hG3
      have O3 := hide o3
      have H3 := hide h3
      have B3 := hide b3
      have HNG := hide hng
      have HNP := hide hnp
      clear hb2 hG3 o3 h3 b3 hng hnp
      refine hK.out _ _ ?_ (fun hHeld => ?_)
      · exact hHeld.but B3.out HNG.out HNP.out
      clear hK K
      try simp only [Act.put, List.setIfInBounds_toArray, List.set_cons_zero, List.set_cons_succ]
      refine wpAnyH_take (i := 15) (oi := { dst := some 49, op := _, type := _, pos := _, after := _, guard := _ }) (v := ?v1x23) rfl (by kernel_rfl) (by kernel_rfl) (by kernel_rfl) (fun _ _ _ h => h) (Or.inl ⟨by rfl, ?hy1x23⟩) hHeld ?rest1x23
      case hy1x23 => (intro w hSw; go_simp <;> with_reducible rfl)
      try simp only [Act.put, List.setIfInBounds_toArray, List.set_cons_zero, List.set_cons_succ]
      refine wpAnyH_take (i := 16) (oi := { dst := some 50, op := _, type := _, pos := _, after := _, guard := _ }) (v := ?v1x24) rfl (by kernel_rfl) (by kernel_rfl) (by kernel_rfl) (fun _ _ _ h => h) (Or.inl ⟨by rfl, ?hy1x24⟩) hHeld ?rest1x24
      case hy1x24 => (intro w hSw; go_simp <;> with_reducible rfl)
      try simp only [Act.put, List.setIfInBounds_toArray, List.set_cons_zero, List.set_cons_succ]
      refine wpAnyH_ready (rs := [17]) (by kernel_rfl) (by simp) (AllReadyH.cons (o := { dst := none, op := _, type := _, pos := _, after := _, guard := _ }) rfl (fun K hK => ?_) AllReadyH.nil)
      go_simp
      go_wp2_with fail
      refine hK.out _ _ ?_ (fun hHeld => ?_)
      · exact hHeld.set5 hpg _
      clear hK K
      try simp only [Act.put, List.setIfInBounds_toArray, List.set_cons_zero, List.set_cons_succ]
      refine wpAnyH_done (by kernel_rfl) ?_ _
    case' way1x20x13 =>
      go_simp
      go_wp2_with fail
      refine hK.out _ _ ?_ (fun hHeld => ?_)
      · exact hHeld.keep ((Below.refl _ _).alloc (Nat.le_refl _) _)
      clear hK K
      try simp only [Act.put, List.setIfInBounds_toArray, List.set_cons_zero, List.set_cons_succ]
      refine wpAnyH_ready (rs := [4]) (by kernel_rfl) (by simp) (AllReadyH.cons (o := { dst := some 38, op := _, type := _, pos := _, after := _, guard := _ }) rfl (fun K hK => ?_) AllReadyH.nil)
      go_simp
      go_wp2_with fail
      refine hK.out _ _ ?_ (fun hHeld => ?_)
      · exact hHeld
      clear hK K
      try simp only [Act.put, List.setIfInBounds_toArray, List.set_cons_zero, List.set_cons_succ]
      refine wpAnyH_ready (rs := [14]) (by kernel_rfl) (by simp) (AllReadyH.cons (o := { dst := some 48, op := _, type := _, pos := _, after := _, guard := _ }) rfl (fun K hK => ?_) AllReadyH.nil)
      rw [if_pos (by rfl)]
      refine op_appS (.tmp 38) (.tmp 47) 43 rfl 51 _ 9 88 Try.underlying43 send_info3 rfl (by decide) 0 m.A m.ws.length m.k (svs m.ws) rfl (ownS_keep (ownS_keep (ownS_keep AX.out.line.row (Below.refl _ _).drew) B2.out) ((Below.refl _ _).alloc (Nat.le_refl _) _)) (some ⟨w2.heap.size, 0, none⟩) 1 1 (svs [⟨T, u, r, C, ck⟩]) rfl (rd_send w2 ⟨T, u, r, C, ck⟩) (svs_one _) (by unfold maxLen; omega) (by omega) (Nat.zero_le _) ?_
      intro A3 k3 w3 o3 b3 h3
      have hb2 : Below X.heap.size X (w2.alloc (.cells #[.int .i64 (T : Nat), .int .i64 u, .int .i64 r.f, .int .i64 r.a, .int .i64 r.c, .slice C r.vs.length ck, .int .i64 r.t, .int .i64 r.an, .int .i64 r.o] 51)) := below_on (below_on (Below.refl _ _).drew B2.out) ((Below.refl _ _).alloc (Nat.le_refl _) _)
      have hng : ¬ (∃ o, m.A = some ⟨m.g, o, none⟩) := fun ⟨o, e⟩ => (AX.out.ne2 _ o e).1 rfl
      have hnp : ¬ (∃ o, m.A = some ⟨w.heap.size, o, none⟩) := fun ⟨o, e⟩ => Nat.lt_irrefl _ (ownS_lt H.out.line.row _ o e)
      have hG3 := (AX.out.blk.keep hb2).but b3 hng
      have e5 : w3.cell? ⟨m.g, 5, none⟩ = some (.slice m.A m.ws.length m.k) := hG3.cell 5
      have f3 := hG3.frozen
      have l3 := hG3.lt
      have BX3 := hide (But.after hb2 b3)
      have HG3 := hide hG3
      have O3 := hide o3
      have H3 := hide h3
      have B3 := hide b3
      have HNG := hide hng
      have HNP := hide hnp
      clear hb2 hG3 o3 h3 b3 hng hnp
      refine hK.out _ _ ?_ (fun hHeld => ?_)
      · exact hHeld.but B3.out HNG.out HNP.out
      clear hK K
      try simp only [Act.put, List.setIfInBounds_toArray, List.set_cons_zero, List.set_cons_succ]
      refine wpAnyH_take (i := 15) (oi := { dst := some 49, op := _, type := _, pos := _, after := _, guard := _ }) (v := ?v1x28) rfl (by kernel_rfl) (by kernel_rfl) (by kernel_rfl) (fun _ _ _ h => h) (Or.inl ⟨by rfl, ?hy1x28⟩) hHeld ?rest1x28
      case hy1x28 => (intro w hSw; go_simp <;> with_reducible rfl)
      try simp only [Act.put, List.setIfInBounds_toArray, List.set_cons_zero, List.set_cons_succ]
      refine wpAnyH_take (i := 16) (oi := { dst := some 50, op := _, type := _, pos := _, after := _, guard := _ }) (v := ?v1x29) rfl (by kernel_rfl) (by kernel_rfl) (by kernel_rfl) (fun _ _ _ h => h) (Or.inl ⟨by rfl, ?hy1x29⟩) hHeld ?rest1x29
      case hy1x29 => (intro w hSw; go_simp <;> with_reducible rfl)
      try simp only [Act.put, List.setIfInBounds_toArray, List.set_cons_zero, List.set_cons_succ]
      refine wpAnyH_ready (rs := [17]) (by kernel_rfl) (by simp) (AllReadyH.cons (o := { dst := none, op := _, type := _, pos := _, after := _, guard := _ }) rfl (fun K hK => ?_) AllReadyH.nil)
      go_simp
      go_wp2_with fail
      refine hK.out _ _ ?_ (fun hHeld => ?_)
      · exact hHeld.set5 hpg _
      clear hK K
      try simp only [Act.put, List.setIfInBounds_toArray, List.set_cons_zero, List.set_cons_succ]
      refine wpAnyH_done (by kernel_rfl) ?_ _
  all_goals
    have r4 := hHeld.1
    clear hHeld k4 z0 z1 z2 z3 z4 z5 z6
    go_wp2
    go_ret2
    have hyo : SM.own w3 ⟨T, u, r, C, ck⟩ := by
      have h1 := own_baseN O2.out (base' := 0) (fun _ _ _ => Nat.zero_le _)
      have h2 := own_keep h1 ((Below.refl _ _).alloc (Nat.le_refl _) _ : Below w2.heap.size w2 (w2.alloc (.cells #[.int .i64 (T : Nat), .int .i64 u, .int .i64 r.f, .int .i64 r.a, .int .i64 r.c, .slice C r.vs.length ck, .int .i64 r.t, .int .i64 r.an, .int .i64 r.o] 51)))
      exact own_but h2 B3.out (fun b' o' e' ⟨o'', e''⟩ => by
        have l1 := ownS_lt AX.out.line.row _ o'' e''
        have l2 := own_newAt O2.out b' o' e'
        have l3 : X.drew.heap.size = X.heap.size := rfl
        omega)
    have hs2 : X.heap.size ≤ w2.heap.size := B2.out.size
    exact RetAsk.ok HE.out HT.out B1.out BX.out AX.out BX3.out HG3.out O3.out (H3.out.imp id (fun h => h.old (by show w.heap.size ≤ (w2.heap.push _).size; rw [Array.size_push]; have := B1.out.size; have := BX.out.size; omega))) hyo

theorem msAsk_any (m : ML) (s : MSt) (u : Int) (r : Rq) (A : Option Addr) (k : Nat) (w : World) (h : MsA w m s) (hr : Rd w A r.vs.length (iv r.vs)) (hl : r.vs.length ≤ 1000000) (hn : s.next ≤ 1000000) (hoff : 0 < r.vs.length → Off m.S A) :
    Calls Try.prog 9 #[.pointer (some ⟨m.g, 0, none⟩), .int .i64 u, .agg #[.int .i64 r.f, .int .i64 r.a, .int .i64 r.c, .slice A r.vs.length k, .int .i64 r.t, .int .i64 r.an, .int .i64 r.o]] w (RetAsk m s u r w) := by
  by_cases hu : u < 0 ∨ 247 < u
  · exact msAsk_unit m s u r A k w h hu
  cases hm : r.may
  · exact msAsk_may m s u r A k w h (by omega) (by omega) hr hl hm
  by_cases hf : 64 ≤ s.line.length
  · exact msAsk_full m s u r A k w h (by omega) (by omega) hr hl hm hf
  · exact msAsk_ok m s u r A k w h (by omega) (by omega) hr hl hm (by omega) hn hoff
end Go.Proofs.Ytfpfijggmfeejaa

namespace Go.Proofs.Ytfpfijggmfeejaa
set_option linter.unusedVariables false
set_option linter.unusedSimpArgs false
open Go.RowKit Go.Maps

/-- What Came answers. -/
def RetCame (m : ML) (R : List Dn × Int × MSt) (w : World) (e : Ending) (w' : World) : Prop :=
  ∃ (P : Option Addr) (l : Nat) (ds : List DM) (m' : ML), e = .returned (.tuple #[.slice P ds.length l, .int .i64 R.2.1]) ∧ ds.map DM.dn = R.1 ∧ DRd w' P ds.length ds ∧ (∀ d ∈ ds, NewAt w d.V) ∧ MsA w' m' R.2.2 ∧ m'.g = m.g ∧ m'.n = m.n ∧ But m.S w w' ∧ (∀ i, m'.S i → m.S i ∨ w.heap.size ≤ i) ∧ (∀ b o, P = some ⟨b, o, none⟩ → ¬ m'.S b ∧ w.heap.size ≤ b) ∧ KeepB w w'
theorem RetCame.none_ {m : ML} {E : Int} {s' : MSt} {w w' : World} (h : MsA w' m s') (b : But m.S w w') (kb : KeepB w w') : RetCame m ([], E, s') w (.returned (.tuple #[.slice none 0 0, .int .i64 E])) w' :=
  ⟨none, 0, [], m, rfl, rfl, Or.inl ⟨rfl, rfl⟩, by simp, h, rfl, rfl, b, fun i h => Or.inl h, (fun _ _ e => by cases e), kb⟩

theorem msCame_bad (m : ML) (s : MSt) (now u : Int) (B : Option Addr) (l d : Nat) (xs : List UInt8) (w : World) (h : MsA w m s) (hk : MOk s) (hb : tickBad s now = true) :
    Calls Try.prog 16 #[.pointer (some ⟨m.g, 0, none⟩), .int .i64 now, .int .i64 u, .slice B l d] w (RetCame m (cameR s now u xs) w) := by
  rw [cameR_bad hb]
  have hlt : now < s.now := by
    have := hk.n0
    simp only [tickBad, Bool.or_eq_true, decide_eq_true_eq] at hb
    omega
  have HR := hide (msReach_bad m s now w h hlt)
  have H := hide h
  clear h hk hb hlt
  go_enter Try.func16, Try.ntmps16
  go_wp2_with fail
  refine HR.out.mono ?_
  rintro e w1 ⟨rfl, rfl⟩
  go_wp2
  go_ret2
  exact RetCame.none_ H.out (But.refl _ _) (fun _ _ _ h => h)
theorem msCame_none (m : ML) (s : MSt) (now u : Int) (B : Option Addr) (l d : Nat) (xs : List UInt8) (w : World) (h : MsA w m s) (hk : MOk s) (hb : tickBad s now = false) (ho : s.out = none) :
    Calls Try.prog 16 #[.pointer (some ⟨m.g, 0, none⟩), .int .i64 now, .int .i64 u, .slice B l d] w (RetCame m (cameR s now u xs) w) := by
  rw [cameR_none hb ho]
  have hmo : m.o = none := by
    have := h.out
    rw [ho] at this
    exact this.none_
  clear ho
  obtain ⟨hn0, hn1⟩ := ok_lt hb
  have HR := hide (msReach_okB m s now w h hn1)
  have HK := hide hk
  clear h hb hn0 hn1 hk
  go_enter Try.func16, Try.ntmps16
  go_wp2_with fail
  refine HR.out.mono ?_
  rintro e w1 ⟨rfl, a1, b1, kb1⟩
  have A1 := hide a1
  have B1 := hide b1
  have KB1 := hide kb1
  obtain ⟨c0, c1, c2, c3, c4, c5, c6, c7⟩ := a1.blk.eight
  clear a1 b1 kb1 c0 c1 c2 c3 c4 c5 c7
  have BW : Hid (But m.S w w1) := hide (B1.out.wide (S' := m.S) (fun i e => Or.inl e))
  rw [hmo] at c6
  simp only [optP] at c6
  clear hmo
  go_wp2
  go_ret2
  exact RetCame.none_ A1.out BW.out KB1.out
theorem msCame_unit (m : ML) (s : MSt) (now u : Int) (x : Wt) (t : Int) (B : Option Addr) (l d : Nat) (xs : List UInt8) (w : World) (h : MsA w m s) (hk : MOk s) (hb : tickBad s now = false) (ho : s.out = some (x, t)) (hu : ¬ x.u = u) :
    Calls Try.prog 16 #[.pointer (some ⟨m.g, 0, none⟩), .int .i64 now, .int .i64 u, .slice B l d] w (RetCame m (cameR s now u xs) w) := by
  rw [cameR_unit hb ho hu]
  have hO := h.out
  rw [ho] at hO
  obtain ⟨b, y, eo, ey, hB, hyo⟩ := hO.some_
  have HQ := hide (hk.omay x t ho)
  have EO := hide eo
  have EY := hide ey
  have HO := hide ho
  clear ey ho hB hyo hO
  obtain ⟨hn0, hn1⟩ := ok_lt hb
  have HR := hide (msReach_okB m s now w h hn1)
  have HK := hide hk
  clear h hb hn0 hn1 hk
  go_enter Try.func16, Try.ntmps16
  go_wp2_with fail
  refine HR.out.mono ?_
  rintro e w1 ⟨rfl, a1, b1, kb1⟩
  have A1 := hide a1
  have B1 := hide b1
  have KB1 := hide kb1
  obtain ⟨c0, c1, c2, c3, c4, c5, c6, c7⟩ := a1.blk.eight
  clear a1 b1 kb1 c0 c1 c2 c3 c4 c5 c7
  have BW : Hid (But m.S w w1) := hide (B1.out.wide (S' := m.S) (fun i e => Or.inl e))
  rw [eo] at c6
  simp only [optP] at c6
  have hO1 := A1.out.out
  rw [HO.out] at hO1
  obtain ⟨b', y', eo', ey', hB1, hy1⟩ := hO1.some_
  rw [eo] at eo'
  injection eo' with eo'
  injection eo' with e1 e2
  subst e1 e2
  have hyu : y.u = x.u := by rw [← EY.out]; rfl
  have HB1 := hide hB1
  have HY1 := hide hy1
  clear hO1 hy1 ey' eo
  have d1 : w1.cell? ⟨b, 1, none⟩ = some (.int .i64 x.u) := by rw [← hyu]; exact hB1.cell 1
  have q : (x.u != u) = true := ne_bne hu
  clear hB1 hyu hu
  go_wp2
  go_ret2
  exact RetCame.none_ A1.out BW.out KB1.out
theorem msCame_no (m : ML) (s : MSt) (now u : Int) (x : Wt) (t : Int) (B : Option Addr) (l d : Nat) (xs : List UInt8) (w : World) (h : MsA w m s) (hk : MOk s) (hb : tickBad s now = false) (ho : s.out = some (x, t)) (hu : x.u = u) (hp : ansParseL x.r xs = none) (hr : Rd w B l (bv xs)) (hd : l ≤ d) :
    Calls Try.prog 16 #[.pointer (some ⟨m.g, 0, none⟩), .int .i64 now, .int .i64 u, .slice B l d] w (RetCame m (cameR s now u xs) w) := by
  rw [cameR_no hb ho hu hp]
  have hO := h.out
  rw [ho] at hO
  obtain ⟨b, y, eo, rfl, hB, hyo⟩ := hO.some_
  obtain ⟨tk, yu, r, V, k⟩ := y
  have hyu : yu = u := hu
  subst hyu
  have hpl : ∀ W, Rd W V r.vs.length (iv r.vs) → Rd W B l (bv xs) → Calls Try.prog 35 #[.agg #[.int .i64 r.f, .int .i64 r.a, .int .i64 r.c, .slice V r.vs.length k, .int .i64 r.t, .int .i64 r.an, .int .i64 r.o], .slice B l d] W (RetAnN ((ansParseL r xs).getD An.none) (if (ansParseL r xs).isSome then 0 else 4) W) :=
    fun W h1 h2 => pansN_any r.f r.a r.c r.t r.an r.o V B r.vs.length k l d r.vs xs W h1 (by have := may_vs (hk.omay _ t ho).1.1; exact Nat.le_trans this (by omega)) h2 hd (hk.omay _ t ho).1.1
  have hpa : ansParseL r xs = none := hp
  rw [hpa] at hpl
  have HPL := hide hpl
  have EO := hide eo
  have HO := hide ho
  have HRB := hide hr
  clear ho hB hyo hO hpl hp hpa hu hr hd
  obtain ⟨hn0, hn1⟩ := ok_lt hb
  have HR := hide (msReach_okB m s now w h hn1)
  have HK := hide hk
  clear h hb hn0 hn1 hk
  go_enter Try.func16, Try.ntmps16
  go_wp2_with fail
  refine HR.out.mono ?_
  rintro e w1 ⟨rfl, a1, b1, kb1⟩
  have A1 := hide a1
  have B1 := hide b1
  have KB1 := hide kb1
  obtain ⟨c0, c1, c2, c3, c4, c5, c6, c7⟩ := a1.blk.eight
  clear a1 b1 kb1 c0 c1 c2 c3 c4 c5 c7
  have BW : Hid (But m.S w w1) := hide (B1.out.wide (S' := m.S) (fun i e => Or.inl e))
  rw [eo] at c6
  simp only [optP] at c6
  have hO1 := A1.out.out
  rw [HO.out] at hO1
  obtain ⟨b', y', eo', ey', hB1, hy1⟩ := hO1.some_
  rw [eo] at eo'
  injection eo' with eo'
  injection eo' with e1 e2
  subst e1 e2
  have HY1 := hide hy1
  obtain ⟨d0, d1, d2, d3, d4, d5, d6, d7, d8, d9, d10⟩ := Blk.eleven hB1
  simp only at d0 d1 d2 d3 d4 d5 d6 d7 d8
  have q : (yu != yu) = false := by simp
  have hBw := KB1.out _ _ _ HRB.out
  have HBW := hide hBw
  clear hO1 hy1 ey' eo hB1 hBw
  go_wp2_with fail
  refine (HPL.out w1 HY1.out.is HBW.out).mono ?_
  rintro e w2 ⟨C, n, ck, rfl, lC, rC, b2, nC⟩
  have RC := hide rC
  have B2 := hide b2
  have NC := hide nC
  clear rC b2 nC d0 d1 d2 d3 d4 d5 d6 d7 d8 d9 d10 c6
  go_wp2
  go_ret2
  exact RetCame.none_ (A1.out.keep (below_on B2.out ((Below.refl _ _).alloc (Nat.le_refl _) _))) (BW.out.on (below_on B2.out ((Below.refl _ _).alloc (Nat.le_refl _) _))) (KB1.out.trans (KeepB.ofBelow (below_on B2.out ((Below.refl _ _).alloc (Nat.le_refl _) _))))
theorem msCame_yes (m : ML) (s : MSt) (now u : Int) (x : Wt) (t : Int) (an : An) (B : Option Addr) (l d : Nat) (xs : List UInt8) (w : World) (h : MsA w m s) (hk : MOk s) (hb : tickBad s now = false) (ho : s.out = some (x, t)) (hu : x.u = u) (hp : ansParseL x.r xs = some an) (hr : Rd w B l (bv xs)) (hd : l ≤ d) :
    Calls Try.prog 16 #[.pointer (some ⟨m.g, 0, none⟩), .int .i64 now, .int .i64 u, .slice B l d] w (RetCame m (cameR s now u xs) w) := by
  rw [cameR_yes hb ho hu hp]
  have hO := h.out
  rw [ho] at hO
  obtain ⟨b, y, eo, rfl, hB, hyo⟩ := hO.some_
  obtain ⟨tk, yu, r, V, k⟩ := y
  have hyu : yu = u := hu
  subst hyu
  have hpl : ∀ W, Rd W V r.vs.length (iv r.vs) → Rd W B l (bv xs) → Calls Try.prog 35 #[.agg #[.int .i64 r.f, .int .i64 r.a, .int .i64 r.c, .slice V r.vs.length k, .int .i64 r.t, .int .i64 r.an, .int .i64 r.o], .slice B l d] W (RetAnN ((ansParseL r xs).getD An.none) (if (ansParseL r xs).isSome then 0 else 4) W) :=
    fun W h1 h2 => pansN_any r.f r.a r.c r.t r.an r.o V B r.vs.length k l d r.vs xs W h1 (by have := may_vs (hk.omay _ t ho).1.1; exact Nat.le_trans this (by omega)) h2 hd (hk.omay _ t ho).1.1
  have hpa : ansParseL r xs = (some an) := hp
  rw [hpa] at hpl
  have HPL := hide hpl
  have EO := hide eo
  have HO := hide ho
  have HRB := hide hr
  clear ho hB hyo hO hpl hp hpa hu hr hd
  obtain ⟨hn0, hn1⟩ := ok_lt hb
  have HR := hide (msReach_okB m s now w h hn1)
  have HK := hide hk
  clear h hb hn0 hn1 hk
  go_enter Try.func16, Try.ntmps16
  go_wp2_with fail
  refine HR.out.mono ?_
  rintro e w1 ⟨rfl, a1, b1, kb1⟩
  have A1 := hide a1
  have B1 := hide b1
  have KB1 := hide kb1
  obtain ⟨c0, c1, c2, c3, c4, c5, c6, c7⟩ := a1.blk.eight
  clear a1 b1 kb1 c0 c1 c2 c3 c4 c5 c7
  have BW : Hid (But m.S w w1) := hide (B1.out.wide (S' := m.S) (fun i e => Or.inl e))
  rw [eo] at c6
  simp only [optP] at c6
  have hO1 := A1.out.out
  rw [HO.out] at hO1
  obtain ⟨b', y', eo', ey', hB1, hy1⟩ := hO1.some_
  rw [eo] at eo'
  injection eo' with eo'
  injection eo' with e1 e2
  subst e1 e2
  have HY1 := hide hy1
  obtain ⟨d0, d1, d2, d3, d4, d5, d6, d7, d8, d9, d10⟩ := Blk.eleven hB1
  simp only at d0 d1 d2 d3 d4 d5 d6 d7 d8
  have q : (yu != yu) = false := by simp
  have hBw := KB1.out _ _ _ HRB.out
  have HBW := hide hBw
  clear hO1 hy1 ey' eo hB1 hBw
  go_wp2_with fail
  refine (HPL.out w1 HY1.out.is HBW.out).mono ?_
  rintro e w2 ⟨C, n, ck, rfl, lC, rC, b2, nC⟩
  have RC := hide rC
  have B2 := hide b2
  have NC := hide nC
  clear rC b2 nC d0 d1 d2 d3 d4 d5 d6 d7 d8 d9 d10 c6
  obtain rfl : n = an.us.length := by
    have := RC.out.1
    rw [iv_length] at this
    exact this.symm
  go_wp2_with fail
  have bW : Below w1.heap.size w1 (w2.alloc (.cells #[.slice C an.us.length ck, .int .i64 an.code] 61)) := below_on B2.out ((Below.refl _ _).alloc (Nat.le_refl _) _)
  have rC2 : Rd (w2.alloc (.cells #[.slice C an.us.length ck, .int .i64 an.code] 61)) C an.us.length (iv an.us) := RC.out.keep ((Below.refl _ _).alloc (Nat.le_refl _) _)
  have hsW : w1.heap.size ≤ (w2.alloc (.cells #[.slice C an.us.length ck, .int .i64 an.code] 61)).heap.size := bW.size
  generalize w2.alloc (.cells #[.slice C an.us.length ck, .int .i64 an.code] 61) = W at *
  have HRW := hide rC2
  have HBWW := hide bW
  refine (msEndB m _ ⟨tk, yu, r⟩ t 0 an false C ck W (A1.out.keep bW) HO.out).mono ?_
  rintro e w4 ⟨⟨O, rfl, zO, hO, a4, b4⟩, kb4⟩
  have KB4 := hide ((KB1.out.trans (KeepB.ofBelow bW)).trans kb4)
  clear kb4
  have ZO := hide zO
  have HOO := hide hO
  have A4 := hide a4
  have B4 := hide b4
  clear zO hO a4 b4 rC2 bW
  go_wp2
  go_ret2
  have hs1 := BW.out.size
  have hgl : m.g < w1.heap.size := A1.out.blk.lt
  have hoo := HOO.out
  refine ⟨some ⟨O, 0, none⟩, 1, [⟨tk, an, false, C, ck⟩], { m with o := none }, rfl, rfl, Or.inr ⟨_, O, rfl, rfl, rfl, ZO.out, HRW.out.but B4.out (fun b' o' e' h' => by have := NC.out b' o' e'; omega)⟩, (fun d hd b' o' e' => by simp at hd; subst hd; have := NC.out b' o' e'; omega), A4.out, rfl, rfl, (BW.out.on HBWW.out).trans B4.out (fun i _ e => Or.inl e), fun i hi => Or.inl (ML.S_gone hi), ?_, KB4.out⟩
  intro b' o' e
  injection e with e
  injection e with e _ _
  refine ⟨fun hc => ?_, by omega⟩
  have := A1.out.lt b' (ML.S_gone hc)
  omega

theorem msCame_any (m : ML) (s : MSt) (now u : Int) (B : Option Addr) (l d : Nat) (xs : List UInt8) (w : World) (h : MsA w m s) (hk : MOk s) (hr : Rd w B l (bv xs)) (hd : l ≤ d) :
    Calls Try.prog 16 #[.pointer (some ⟨m.g, 0, none⟩), .int .i64 now, .int .i64 u, .slice B l d] w (RetCame m (cameR s now u xs) w) := by
  cases hb : tickBad s now
  · rcases out_cases s with ho | ⟨x, t, ho⟩
    · exact msCame_none m s now u B l d xs w h hk hb ho
    · by_cases hu : x.u = u
      · cases hp : ansParseL x.r xs with
        | none => exact msCame_no m s now u x t B l d xs w h hk hb ho hu hp hr hd
        | some an => exact msCame_yes m s now u x t an B l d xs w h hk hb ho hu hp hr hd
      · exact msCame_unit m s now u x t B l d xs w h hk hb ho hu
  · exact msCame_bad m s now u B l d xs w h hk hb
end Go.Proofs.Ytfpfijggmfeejaa

namespace Go.Proofs.Ytfpfijggmfeejaa
set_option linter.unusedVariables false
set_option linter.unusedSimpArgs false
open Go.RowKit Go.Maps

def rdq : Rq := ⟨3, 0, 1, [], 0, 0, 0⟩
theorem rdq_may : rdq.may = true := by kernel_rfl
theorem read7 (w : World) : Calls Try.prog 21 #[] w fun e w' => e = .returned (.agg #[.int .i64 3, .int .i64 0, .int .i64 1, .slice none 0 0, .int .i64 0, .int .i64 0, .int .i64 0]) ∧ Below w.heap.size w w' := by
  go_enter Try.func21, Try.ntmps21
  go_wp2_with fail
  generalize hV : w.alloc _ = V
  obtain ⟨zV, bV⟩ := box1 w 37 [.int .i64 3, .int .i64 0, .int .i64 1, .slice none 0 0, .int .i64 0, .int .i64 0, .int .i64 0] V hV.symm
  (try simp only [Exit.inBlock, Exit.then])
  refine bodyPost_ret (results_cell rfl rfl zV Try.underlying37 rfl (by kernel_rfl)) rfl ?_
  exact ⟨rfl, bV⟩
/-- A master above B. -/
structure MsW (B : Nat) (w : World) (m : ML) (s : MSt) : Prop where
  a : MsA w m s
  ok : MOk s
  lo : ∀ i, m.S i → B ≤ i
theorem MsW.keep {B : Nat} {w w' : World} {m : ML} {s : MSt} (h : MsW B w m s) (b : Below w.heap.size w w') : MsW B w' m s := ⟨h.a.keep b, h.ok, h.lo⟩
theorem MsW.off {B : Nat} {w : World} {m : ML} {s : MSt} (h : MsW B w m s) {A : Option Addr} (hA : ∀ b o, A = some ⟨b, o, none⟩ → b < B) : Off m.S A := fun b o e hs => by have := hA b o e; have := h.lo b hs; omega
/-- What is below B is as it was. -/
theorem MsW.below {B : Nat} {v w w' : World} {m : ML} {s : MSt} (h : MsW B w m s) (hv : Below B v w) (hB : B ≤ w.heap.size) (b : But m.S w w') : Below B v w' := But.below hv b h.lo hB
theorem lo_on {B : Nat} {S S' : Nat → Prop} {w : World} (h : ∀ i, S i → B ≤ i) (hs : ∀ i, S' i → S i ∨ w.heap.size ≤ i) (hB : B ≤ w.heap.size) : ∀ i, S' i → B ≤ i := fun i hi => (hs i hi).elim (h i) (fun h => by omega)
theorem msNew_w (wa ag re : Int) (h : mMay wa ag re = true) (w : World) : Calls Try.prog 6 #[.int .i64 wa, .int .i64 ag, .int .i64 re] w fun e w' => ∃ m : ML, e = .returned (.tuple #[.pointer (some ⟨m.g, 0, none⟩), .int .i64 0]) ∧ MsW w.heap.size w' m (mNew wa ag re) ∧ m.n = 0 ∧ Below w.heap.size w w' :=
  (msNew_ok wa ag re h w).mono fun e w' ⟨m, h1, h2, h3, h4, h5⟩ => ⟨m, h1, ⟨h2, mOk_new wa ag re h, h4⟩, h3, h5⟩
theorem msAsk_w (B g : Nat) (m : ML) (s : MSt) (u : Int) (r : Rq) (A : Option Addr) (k : Nat) (v w : World) (h : MsW B w m s) (hr : Rd w A r.vs.length (iv r.vs)) (hl : r.vs.length ≤ 1000000) (hn : s.next ≤ 1000000) (hoff : 0 < r.vs.length → Off m.S A) (hv : Below B v w) (hB : B ≤ w.heap.size) (hg : m.g = g) :
    Calls Try.prog 9 #[.pointer (some ⟨g, 0, none⟩), .int .i64 u, .agg #[.int .i64 r.f, .int .i64 r.a, .int .i64 r.c, .slice A r.vs.length k, .int .i64 r.t, .int .i64 r.an, .int .i64 r.o]] w fun e w' =>
      ∃ m' : ML, e = .returned (.tuple #[.int .i64 (askT s u r), .int .i64 (askE s u r)]) ∧ MsW B w' m' (askS s u r) ∧ m'.g = g ∧ m'.n = m.n ∧ Below B v w' ∧ But m.S w w' ∧ (∀ i, m'.S i → m.S i ∨ w.heap.size ≤ i) :=
  hg ▸ (msAsk_any m s u r A k w h.a hr hl hn hoff).mono fun e w' ⟨m', h1, h2, h3, h4, h5, h6⟩ => ⟨m', h1, ⟨h2, mOk_ask h.ok u r, lo_on h.lo h6 hB⟩, h3, h4, h.below hv hB h5, h5, h6⟩
/-- What Step answers, above B. -/
def RetStepW (B g : Nat) (m : ML) (R : List Wt × List Dn × Int × MSt) (v w : World) (e : Ending) (w' : World) : Prop :=
  ∃ (O P : Option Addr) (k l : Nat) (rs : List SM) (ds : List DM) (m' : ML), e = .returned (.tuple #[.slice O rs.length k, .slice P ds.length l, .int .i64 R.2.2.1]) ∧ rs.map SM.wt = R.1 ∧ SRd1 w' O rs.length rs ∧ ds.map DM.dn = R.2.1 ∧ DRd w' P ds.length ds ∧
    MsW B w' m' R.2.2.2 ∧ m'.g = g ∧ m'.n ≤ m.n + 1 ∧ Below B v w' ∧ (∀ b o, O = some ⟨b, o, none⟩ → ¬ m'.S b ∧ w.heap.size ≤ b) ∧ (∀ b o, P = some ⟨b, o, none⟩ → ¬ m'.S b ∧ w.heap.size ≤ b) ∧ But m.S w w' ∧ (∀ i, m'.S i → m.S i ∨ w.heap.size ≤ i)
theorem msStep_w (B g : Nat) (m : ML) (s : MSt) (now : Int) (v w : World) (h : MsW B w m s) (hw : now ≤ 9223372036854775807) (hm : m.n ≤ 1000000) (hv : Below B v w) (hB : B ≤ w.heap.size) (hg : m.g = g) :
    Calls Try.prog 11 #[.pointer (some ⟨g, 0, none⟩), .int .i64 now] w (RetStepW B g m (stepR s now) v w) :=
  hg ▸ (msStep_any m s now w h.a h.ok hw hm).mono fun e w' ⟨⟨O, P, k, l, rs, ds, m', h1, h2, h3, h4, h5, h6, h7, h8, h9, h10, h11, h12⟩⟩ => ⟨O, P, k, l, rs, ds, m', h1, h2, h3, h4, h5, ⟨h6, mOk_step h.ok now, lo_on h.lo h10 hB⟩, h7, h8, h.below hv hB h9, h11, h12, h9, h10⟩
/-- What Came answers, above B. -/
def RetCameW (B g : Nat) (m : ML) (R : List Dn × Int × MSt) (v w : World) (e : Ending) (w' : World) : Prop :=
  ∃ (P : Option Addr) (l : Nat) (ds : List DM) (m' : ML), e = .returned (.tuple #[.slice P ds.length l, .int .i64 R.2.1]) ∧ ds.map DM.dn = R.1 ∧ DRd w' P ds.length ds ∧ (∀ d ∈ ds, NewAt w d.V) ∧ MsW B w' m' R.2.2 ∧ m'.g = g ∧ m'.n = m.n ∧ Below B v w' ∧ (∀ b o, P = some ⟨b, o, none⟩ → ¬ m'.S b ∧ w.heap.size ≤ b) ∧ But m.S w w' ∧ (∀ i, m'.S i → m.S i ∨ w.heap.size ≤ i) ∧ KeepB w w'
theorem msCame_w (B g : Nat) (m : ML) (s : MSt) (now u : Int) (A : Option Addr) (l d : Nat) (xs : List UInt8) (v w : World) (h : MsW B w m s) (hr : Rd w A l (bv xs)) (hd : l ≤ d) (hv : Below B v w) (hB : B ≤ w.heap.size) (hg : m.g = g) :
    Calls Try.prog 16 #[.pointer (some ⟨g, 0, none⟩), .int .i64 now, .int .i64 u, .slice A l d] w (RetCameW B g m (cameR s now u xs) v w) :=
  hg ▸ (msCame_any m s now u A l d xs w h.a h.ok hr hd).mono fun e w' ⟨P, l, ds, m', h1, h2, h3, h3', h4, h5, h6, h7, h8, h9, h10⟩ => ⟨P, l, ds, m', h1, h2, h3, h3', ⟨h4, mOk_came h.ok now u xs, lo_on h.lo h8 hB⟩, h5, h6, h.below hv hB h7, h9, h7, h8, h10⟩

theorem msCount_w (B g : Nat) (m : ML) (s : MSt) (w : World) (h : MsW B w m s) (hg : m.g = g) : Calls Try.prog 18 #[.pointer (some ⟨g, 0, none⟩)] w fun e w' => e = .returned (.int .i64 (mCount s : Nat)) ∧ w = w' :=
  hg ▸ msCount m s w h.a (by have := h.ok.len; omega)
def ex7a : MSt := askS (mNew 10 1 50) 1 rdq
def ex7b : MSt := (stepR ex7a 0).2.2.2
theorem ex7_may : mMay 10 1 50 = true := by kernel_rfl
theorem ex7_ask : askT (mNew 10 1 50) 1 rdq = 1 ∧ askE (mNew 10 1 50) 1 rdq = 0 := ⟨by kernel_rfl, by kernel_rfl⟩
theorem ex7_step : (stepR ex7a 0).1 = [⟨1, 1, rdq⟩] ∧ (stepR ex7a 0).2.2.1 = 0 := ⟨by kernel_rfl, by kernel_rfl⟩
theorem ex7_came : (cameR ex7b 3 1 [3, 2, 0, 7]).1 = [⟨1, ⟨[7], 0⟩, false⟩] ∧ (cameR ex7b 3 1 [3, 2, 0, 7]).2.1 = 0 ∧ mCount (cameR ex7b 3 1 [3, 2, 0, 7]).2.2 = 0 := ⟨by kernel_rfl, by kernel_rfl, by kernel_rfl⟩
theorem sm_one {rs : List SM} {x : Wt} (h : rs.map SM.wt = [x]) : ∃ r, rs = [r] ∧ r.wt = x := by
  rcases rs with _ | ⟨r, _ | ⟨r', rs⟩⟩
  · simp at h
  · simp at h
    exact ⟨r, rfl, h⟩
  · simp at h
theorem dm_one {rs : List DM} {x : Dn} (h : rs.map DM.dn = [x]) : ∃ r, rs = [r] ∧ r.dn = x := by
  rcases rs with _ | ⟨r, _ | ⟨r', rs⟩⟩
  · simp at h
  · simp at h
    exact ⟨r, rfl, h⟩
  · simp at h
theorem SRd1.one {w : World} {O : Option Addr} {n : Nat} {r : SM} (h : SRd1 w O n [r]) : ∃ b, O = some ⟨b, 0, none⟩ ∧ Blk w b 51 r.vs ∧ r.own w := by
  rcases h with ⟨h, _⟩ | ⟨r', b, e1, _, e3, h1, h2⟩
  · cases h
  · cases e1
    exact ⟨b, e3, h1, h2⟩
theorem DRd.one {w : World} {O : Option Addr} {n : Nat} {d : DM} (h : DRd w O n [d]) : ∃ b, O = some ⟨b, 0, none⟩ ∧ Blk w b 63 d.vs ∧ d.is w := by
  rcases h with ⟨h, _⟩ | ⟨r', b, e1, _, e3, h1, h2⟩
  · cases h
  · cases e1
    exact ⟨b, e3, h1, h2⟩

set_option maxHeartbeats 2000000 in
set_option maxRecDepth 100000 in
theorem awake7_any (w : World) : Calls Try.prog 8 #[] w fun e w' => e = .returned (.bool true) ∧ Below w.heap.size w w' := by
  go_enter Try.func8, Try.ntmps8
  go_wp2_with fail
  refine (msNew_w 10 1 50 ex7_may w).mono ?_
  rintro e w1 ⟨m, rfl, a1, n1, b1⟩
  have A1 := hide a1
  have B1 := hide b1
  have HN := hide n1
  clear a1 b1 n1
  go_wp2_with fail
  refine (read7 w1).mono ?_
  rintro e w2 ⟨rfl, b2⟩
  have A2 := hide (A1.out.keep b2)
  have B2 := hide (below_on B1.out b2)
  clear b2
  go_wp2_with fail
  have hask := msAsk_w w.heap.size m.g m (mNew 10 1 50) 1 rdq none 0 w w2 A2.out (Rd.nil _ _) (by decide) (by decide) (fun _ => Off.none_ _) B2.out B2.out.size rfl
  rw [ex7_ask.1, ex7_ask.2] at hask
  refine hask.mono ?_
  rintro e w3 ⟨m3, rfl, a3, g3, n3, b3, _, _⟩
  have A3 := hide a3
  have B3 := hide b3
  have HN3 : Hid (m3.n = 0) := hide (n3.trans HN.out)
  have G3 := hide g3
  clear a3 b3 n3 hask g3
  go_wp2_with fail
  refine (msStep_w w.heap.size m.g m3 ex7a 0 w w3 A3.out (by omega) (by have := HN3.out; omega) B3.out B3.out.size G3.out).mono ?_
  rintro e w4 ⟨O, P, k, l, rs, ds, m4, rfl, e1, r4, e2, d4, a4, g4, n4, b4, f4, _, _, _⟩
  rw [ex7_step.1] at e1
  rw [ex7_step.2]
  obtain ⟨y, rfl, ey⟩ := sm_one e1
  obtain ⟨bO, rfl, zO, _⟩ := r4.one
  have A4 := hide a4
  have B4 := hide b4
  have G4 := hide g4
  have EY := hide ey
  have ZO := hide zO
  have FO := hide (f4 bO 0 rfl).1
  clear a4 b4 g4 ey zO f4 e1 e2 d4 r4 n4
  go_wp2_with fail
  have b5 : Below w4.heap.size w4 (w4.alloc (.cells #[.int .u8 3, .int .u8 2, .int .u8 0, .int .u8 7] 5)) := (Below.refl _ _).alloc (Nat.le_refl _) _
  have r5 : Rd (w4.alloc (.cells #[.int .u8 3, .int .u8 2, .int .u8 0, .int .u8 7] 5)) (some ⟨w4.heap.size, 0, none⟩) 4 (bv [3, 2, 0, 7]) := (Blk.new w4 5 (bv [3, 2, 0, 7])).rd
  generalize w4.alloc (.cells #[.int .u8 3, .int .u8 2, .int .u8 0, .int .u8 7] 5) = W at *
  have HB5 := hide b5
  refine (msCame_w w.heap.size m.g m4 ex7b 3 1 (some ⟨w4.heap.size, 0, none⟩) 4 4 [3, 2, 0, 7] w W (A4.out.keep b5) r5 (by omega) (below_on B4.out b5) (below_on B4.out b5).size G4.out).mono ?_
  rintro e w6 ⟨P6, l6, ds6, m6, rfl, e6, d6, _, a6, g6, n6, b6, _, u6, _, _⟩
  rw [ex7_came.1] at e6
  rw [ex7_came.2.1]
  obtain ⟨dd, rfl, ed⟩ := dm_one e6
  obtain ⟨bD, rfl, zD, iD⟩ := d6.one
  obtain ⟨dtk, dan, dlate, dV, dk⟩ := dd
  injection ed with ed1 ed2 ed3
  subst ed1 ed2 ed3
  have hv1 : Rd w6 dV 1 (iv [7]) := iD
  obtain ⟨bV, oV, rfl, _, hcV⟩ := hv1.2 (by omega)
  have v0 : w6.cell? ⟨bV, oV, none⟩ = some (.int .i64 7) := hcV 0 _ rfl
  have dc1 : w6.cell? ⟨bD, 1, none⟩ = some (.slice (some ⟨bV, oV, none⟩) 1 dk) := zD.cell 1
  have zO6 := (ZO.out.keep HB5.out).but u6 FO.out
  obtain ⟨ytk, yu, yr, yV, yk⟩ := y
  have eyu : yu = 1 := congrArg Wt.u EY.out
  subst eyu
  have sc1 : w6.cell? ⟨bO, 1, none⟩ = some (.int .i64 1) := zO6.cell 1
  have A6 := hide a6
  have B6 := hide b6
  have G6 := hide g6
  clear a6 b6 g6 n6 u6 d6 zD iD hv1 hcV zO6 b5 r5 e6
  go_wp2_with fail
  have hcnt := msCount_w w.heap.size m.g m6 _ w6 A6.out G6.out
  rw [ex7_came.2.2] at hcnt
  refine hcnt.mono ?_
  rintro e w7 ⟨rfl, rfl⟩
  go_wp2
  go_ret
  exact ⟨rfl, B6.out⟩
end Go.Proofs.Ytfpfijggmfeejaa
