/-
  What is proved here: what the document's own May, Copy, Count, Ask of layer 7 answer. Conditions: lines of at most 64; lists of at most 10^6; tickets below 10^6.
-/
import Derived.Test.YtfpfijggmfeejaaRs1
import Derived.Test.YtfpfijggmfeejaaRef3c
namespace Go.Proofs.Ytfpfijggmfeejaa
set_option linter.unusedVariables false
set_option linter.unusedSimpArgs false
open Go.RowKit Go.Maps

theorem rsMay_any (wa ag re : Int) (w : World) : Calls Try.prog 7 #[.int .i64 wa, .int .i64 ag, .int .i64 re] w fun e w' => e = .returned (.bool (mMay wa ag re)) ∧ w = w' := by
  unfold mMay
  by_cases h1 : 1 ≤ wa
  · by_cases h2 : 0 ≤ ag
    · by_cases h3 : ag ≤ 16
      · by_cases h4 : 0 ≤ re
        · rw [decide_eq_true h1, decide_eq_true h2, decide_eq_true h3, decide_eq_true h4]
          go_enter Try.func7, Try.ntmps7
          go_wp2
          go_ret
          exact ⟨rfl, rfl⟩
        · rw [decide_eq_true h1, decide_eq_true h2, decide_eq_true h3, decide_eq_false h4]
          go_enter Try.func7, Try.ntmps7
          go_wp2
          go_ret
          exact ⟨rfl, rfl⟩
      · rw [decide_eq_true h1, decide_eq_true h2, decide_eq_false h3]
        go_enter Try.func7, Try.ntmps7
        go_wp2
        go_ret
        exact ⟨rfl, rfl⟩
    · rw [decide_eq_true h1, decide_eq_false h2]
      go_enter Try.func7, Try.ntmps7
      go_wp2
      go_ret
      exact ⟨rfl, rfl⟩
  · rw [decide_eq_false h1]
    go_enter Try.func7, Try.ntmps7
    go_wp2
    go_ret
    exact ⟨rfl, rfl⟩

theorem rsCopy_any (A : Option Addr) (n c : Nat) (vs : List Int) (w : World) (h : Rd w A n (iv vs)) (hn : n ≤ 1000000) :
    Calls Try.prog 24 #[.slice A n c] w fun e w' => ∃ C k, e = .returned (.slice C n k) ∧ w'.ownsRow w.heap.size 3 1 (.slice C n k) n (iv vs) ∧ Below w.heap.size w w' := by
  go_enter Try.func24, Try.ntmps24
  go_wp2_with (at_builtin; refine wpList_app rfl (.tmp 4) (.tmp 5) 35 rfl 3 _ _ Try.underlying35 int_info rfl w.heap.size none 0 0 [] rfl (World.ownsRow_nil _ _ _ _) A n c (iv vs) rfl h (iv_one _) (by unfold maxLen; omega) (by omega) (Nat.le_refl _) ?_; intro A1 c1 w1 o1 g1 b1; rw [Nat.zero_add, List.nil_append] at o1)
  go_ret
  exact ⟨A1, c1, by simp, o1, b1⟩

theorem outV_len (o : Option (Nat × SM)) (out : Option (Wt × Int)) (w : World) (h : ROut w o out) : ∃ O k, outV o = .slice O (outN out) k := by
  match out, o, h with
  | none, none, _ => exact ⟨none, 0, rfl⟩
  | some (x, t), some (g, y), _ => exact ⟨some ⟨g, 0, none⟩, 1, rfl⟩

theorem rsCount (R : RL) (s : MSt) (w : World) (h : RsA w R s) (hl : s.line.length ≤ 64) : Calls Try.prog 19 #[.pointer (some ⟨R.g, 0, none⟩)] w fun e w' => e = .returned (.int .i64 (mCount s : Nat)) ∧ ∃ q, w' = w.drewN q := by
  have c6 : w.cell? ⟨R.g, 6, none⟩ = some (.slice R.A R.ws.length R.k) := h.blk.cell 6
  obtain ⟨O, ko, hO⟩ := outV_len _ _ _ h.out
  have c7 : w.cell? ⟨R.g, 7, none⟩ = some (.slice O (outN s.out) ko) := by rw [← hO]; exact h.blk.cell 7
  have hlen : R.ws.length = s.line.length := by rw [← h.wl, List.length_map]
  rw [hlen] at c6
  have hn : outN s.out ≤ 1 := by unfold outN; split <;> omega
  have Hm := hide (show ((mCount s : Nat) : Int) = (s.line.length : Int) + (outN s.out : Int) by simp [mCount])
  clear hO hlen h
  generalize s.line.length = L at *
  generalize outN s.out = N at *
  go_enter Try.func19, Try.ntmps19
  go_wp2
  go_quiet (fail)
  go_wp2
  go_ret
  exact ⟨by rw [Hm.out]; rfl, _, rfl⟩

/-- What the document's Ask answers. -/
def RetRAsk (R : RL) (s : MSt) (u : Int) (r : Rq) (w : World) (e : Ending) (w' : World) : Prop :=
  ∃ R' : RL, e = .returned (.tuple #[.int .i64 (askT s u r), .int .i64 (askE s u r)]) ∧ RsA w' R' (askS s u r) ∧ R'.g = R.g ∧ But R.S w w' ∧ ∀ i, R'.S i → R.S i ∨ w.heap.size ≤ i
theorem RetRAsk.no {R : RL} {s : MSt} {u : Int} {r : Rq} {w w' : World} {E : Int} (h : RsA w R s) (b : Below w.heap.size w w') (hE : askE s u r = E) (h0 : E ≠ 0) : RetRAsk R s u r w (.returned (.tuple #[.int .i64 0, .int .i64 E])) w' := by
  refine ⟨R, ?_, ?_, rfl, But.ofBelow b _, fun i h => Or.inl h⟩
  · unfold askT
    rw [hE, if_neg h0]
  · unfold askS
    rw [hE, if_neg h0]
    exact h.keep b
/-- One more waits. -/
theorem RsA.asked {w w' : World} {R : RL} {s : MSt} (h : RsA w R s) (b : But (fun i => i = R.g ∨ ∃ o, R.A = some ⟨i, o, none⟩) w w') (A' : Option Addr) (k' : Nat) (y : SM) (hblk : Blk w' R.g 34 (rcs { R with A := A', k := k', ws := R.ws ++ [y] } s))
    (hrow : w'.ownsRow 0 53 10 (.slice A' (R.ws ++ [y]).length k') (R.ws ++ [y]).length (avs (R.ws ++ [y]))) (hy : y.own w') (hap : ∀ b o y', A' = some ⟨b, o, none⟩ → R.o = some (b, y') → False) : RsA w' { R with A := A', k := k', ws := R.ws ++ [y] } { s with line := s.line ++ [y.wt] } := by
  have hS : ∀ i, (i = R.g ∨ ∃ o, R.A = some ⟨i, o, none⟩) → R.S i := fun i e => e.elim Or.inl (fun e => Or.inr (Or.inl e))
  refine ⟨hblk, hrow, fun x hx => ?_, by show List.map SM.wt (R.ws ++ [y]) = _; rw [List.map_append, h.wl]; rfl, ?_, hap⟩
  · rcases List.mem_append.1 hx with hx | hx
    · exact (h.own x hx).but b (fun b' o' e' h' => h.off (h.own x hx) b' o' e' (hS _ h'))
    · simp at hx
      subst hx
      exact hy
  · refine h.out.but b (fun b' y' e => ⟨?_, ?_⟩)
    · obtain ⟨t, hb, _⟩ := h.out.lay e
      rintro (e' | ⟨o, e'⟩)
      · exact h.ne.2 b' y' e e'
      · exact h.ap _ _ _ e' e
    · obtain ⟨t, _, ho⟩ := h.out.lay e
      exact fun b'' o'' e'' h'' => h.off ho b'' o'' e'' (hS _ h'')

theorem rsAsk_unit (R : RL) (s : MSt) (u : Int) (r : Rq) (A : Option Addr) (k : Nat) (w : World) (h : RsA w R s) (hu : u < 0 ∨ 247 < u) :
    Calls Try.prog 10 #[.pointer (some ⟨R.g, 0, none⟩), .int .i64 u, .agg #[.int .i64 r.f, .int .i64 r.a, .int .i64 r.c, .slice A r.vs.length k, .int .i64 r.t, .int .i64 r.an, .int .i64 r.o]] w (RetRAsk R s u r w) := by
  have hE : askE s u r = 1 := by
    unfold askE
    rw [if_pos (by omega)]
  have H := hide h
  have HE := hide hE
  clear h hE
  by_cases h0 : u < 0
  · have q := decide_eq_true h0
    clear hu h0
    go_enter Try.func10, Try.ntmps10
    go_wp2
    go_ret2
    exact RetRAsk.no H.out ((Below.refl _ _).alloc (Nat.le_refl _) _) HE.out (by omega)
  · have q : decide (u < 0) = false := decide_eq_false h0
    have q2 : decide (247 < u) = true := decide_eq_true (by omega)
    clear hu h0
    go_enter Try.func10, Try.ntmps10
    go_wp2
    go_ret2
    exact RetRAsk.no H.out ((Below.refl _ _).alloc (Nat.le_refl _) _) HE.out (by omega)
theorem rsAsk_may (R : RL) (s : MSt) (u : Int) (r : Rq) (A : Option Addr) (k : Nat) (w : World) (h : RsA w R s) (hu : 0 ≤ u) (hu' : u ≤ 247) (hr : Rd w A r.vs.length (iv r.vs)) (hl : r.vs.length ≤ 1000000) (hm : r.may = false) :
    Calls Try.prog 10 #[.pointer (some ⟨R.g, 0, none⟩), .int .i64 u, .agg #[.int .i64 r.f, .int .i64 r.a, .int .i64 r.c, .slice A r.vs.length k, .int .i64 r.t, .int .i64 r.an, .int .i64 r.o]] w (RetRAsk R s u r w) := by
  have hE : askE s u r = 1 := by
    unfold askE
    rw [if_pos (Or.inr (Or.inr hm))]
  have H := hide h
  have HE := hide hE
  have HR := hide hr
  have HM := hide hm
  clear h hE hr hm
  have q : decide (u < 0) = false := decide_eq_false (by omega)
  have q2 : decide (247 < u) = false := decide_eq_false (by omega)
  clear hu hu'
  go_enter Try.func10, Try.ntmps10
  go_wp2_with fail
  generalize hV : w.alloc _ = V
  obtain ⟨zV, bV⟩ := box1 w 37 (rqv r A k) V hV.symm
  clear hV
  have hc := refMay_any r.f r.a r.c r.t r.an r.o A r.vs.length k r.vs V (HR.out.keep bV) hl
  have hM2 : mayB r.f r.a r.c r.vs r.t r.an r.o = false := HM.out
  rw [hM2] at hc
  refine hc.mono ?_
  rintro e w1 ⟨rfl, b1⟩
  have Z1 := hide (zV.keep b1)
  have B1 := hide (below_on bV b1)
  clear zV bV b1 hc hM2
  go_wp2
  go_ret2
  exact RetRAsk.no H.out B1.out HE.out (by omega)
theorem rsAsk_full (R : RL) (s : MSt) (u : Int) (r : Rq) (A : Option Addr) (k : Nat) (w : World) (h : RsA w R s) (hu : 0 ≤ u) (hu' : u ≤ 247) (hr : Rd w A r.vs.length (iv r.vs)) (hl : r.vs.length ≤ 1000000) (hm : r.may = true) (hf : 64 ≤ s.line.length) :
    Calls Try.prog 10 #[.pointer (some ⟨R.g, 0, none⟩), .int .i64 u, .agg #[.int .i64 r.f, .int .i64 r.a, .int .i64 r.c, .slice A r.vs.length k, .int .i64 r.t, .int .i64 r.an, .int .i64 r.o]] w (RetRAsk R s u r w) := by
  have hE : askE s u r = 6 := by
    unfold askE
    rw [if_neg (by rw [hm]; simp; omega), if_pos hf]
  have hwl : R.ws.length = s.line.length := by rw [← h.wl, List.length_map]
  have H := hide h
  have HE := hide hE
  have HR := hide hr
  have HM := hide hm
  clear h hE hr hm
  have q : decide (u < 0) = false := decide_eq_false (by omega)
  have q2 : decide (247 < u) = false := decide_eq_false (by omega)
  clear hu hu'
  go_enter Try.func10, Try.ntmps10
  go_wp2_with fail
  generalize hV : w.alloc _ = V
  obtain ⟨zV, bV⟩ := box1 w 37 (rqv r A k) V hV.symm
  clear hV
  have hc := refMay_any r.f r.a r.c r.t r.an r.o A r.vs.length k r.vs V (HR.out.keep bV) hl
  have hM2 : mayB r.f r.a r.c r.vs r.t r.an r.o = true := HM.out
  rw [hM2] at hc
  refine hc.mono ?_
  rintro e w1 ⟨rfl, b1⟩
  have Z1 := hide (zV.keep b1)
  have B1 := hide (below_on bV b1)
  clear zV bV b1 hc hM2
  have c6 : w1.cell? ⟨R.g, 6, none⟩ = some (.slice R.A R.ws.length R.k) := (H.out.keep B1.out).blk.cell 6
  have q3 : (64 : Int) ≤ (R.ws.length : Int) := by omega
  clear hf hwl
  go_wp2
  go_ret2
  exact RetRAsk.no H.out B1.out HE.out (by omega)

end Go.Proofs.Ytfpfijggmfeejaa
