/-
  What is proved here: what a list of who was sent how often and who is done comes to, call by call, beside a master as layer 7's plain functions have it. No condition of its own; nothing of the program is named.
-/
import Derived.Test.YtfpfijggmfeejaaMsMath2
namespace Go.Proofs.Ytfpfijggmfeejaa
set_option linter.unusedVariables false
set_option linter.unusedSimpArgs false
open Go.RowKit

/-- What is done is written down. -/
def OnceD (again : Int) (next : Nat) (sent : Nat → Int) (done : Nat → Bool) (out : Nat) (D : List Dn) (done1 : Nat → Bool) (out1 : Nat) : Prop :=
  (D = [] ∧ done1 = done ∧ out1 = out) ∨ (∃ d, D = [d] ∧ 1 ≤ d.tk ∧ d.tk ≤ next ∧ done d.tk = false ∧ sent d.tk ≠ 0 ∧ d.tk = out ∧ (d.late = true → sent d.tk = again + 1) ∧ done1 = updF done d.tk true ∧ out1 = 0)
/-- What is sent is written down. -/
def OnceA (again : Int) (next : Nat) (sent : Nat → Int) (done1 : Nat → Bool) (out1 : Nat) (last : Wt) (A : List Wt) (sent2 : Nat → Int) (out2 : Nat) (last2 : Wt) : Prop :=
  (A = [] ∧ sent2 = sent ∧ out2 = out1 ∧ last2 = last) ∨ (∃ x, A = [x] ∧ 1 ≤ x.tk ∧ x.tk ≤ next ∧ done1 x.tk = false ∧ 0 ≤ sent x.tk ∧ sent x.tk ≤ again ∧ (out1 = 0 ∨ x.tk = out1) ∧ x.r.may = true ∧ sent2 = updF sent x.tk (sent x.tk + 1) ∧ out2 = x.tk ∧ last2 = x)
section
variable {s : MSt} {sent : Nat → Int} {done : Nat → Bool} {out : Nat} {last : Wt}
theorem sendS_next (s : MSt) (now : Int) : (sendS s now).2.next = s.next ∧ (sendS s now).2.again = s.again := by
  unfold sendS
  split <;> exact ⟨rfl, rfl⟩
/-- One is sent first, or none. -/
theorem once_first (h : OnceI s sent done out last) (now : Int) (hn : s.now = now) (ho : s.out = none) :
    ∃ sent2 out2 last2, OnceA s.again s.next sent done out last (sendS s now).1 sent2 out2 last2 ∧ OnceI (sendS s now).2 sent2 done out2 last2 := by
  cases hf : freeAt s.till now s.line with
  | none =>
    have e : sendS s now = ([], s) := by unfold sendS; rw [hf]
    rw [e]
    exact ⟨sent, out, last, Or.inl ⟨rfl, rfl, rfl, rfl⟩, h⟩
  | some q =>
    obtain ⟨a, x, b⟩ := q
    obtain ⟨h1, h2, h3, h4, h5, h6, h7, h8⟩ := once_send h now hn ho hf
    refine ⟨updF sent x.tk 1, x.tk, x, ?_, h1⟩
    rw [h2]
    refine Or.inr ⟨x, rfl, h6, h7, h3, by rw [h4]; exact Int.le_refl _, by rw [h4]; exact h.ok.a0, Or.inl h8, h5, by rw [h4]; rfl, rfl, rfl⟩
theorem once_step (h : OnceI s sent done out last) (now : Int) :
    ∃ sent2 done1 out1 out2 last2, OnceD s.again s.next sent done out (stepR s now).2.1 done1 out1 ∧ OnceA s.again s.next sent done1 out1 last (stepR s now).1 sent2 out2 last2 ∧ OnceI (stepR s now).2.2.2 sent2 done1 out2 last2 ∧ (stepR s now).2.2.2.next = s.next ∧ (stepR s now).2.2.2.again = s.again := by
  cases hb : tickBad s now with
  | true =>
    rw [stepR_bad hb]
    exact ⟨sent, done, out, out, last, Or.inl ⟨rfl, rfl, rfl⟩, Or.inl ⟨rfl, rfl, rfl, rfl⟩, h, rfl, rfl⟩
  | false =>
    have hT := once_tick h now hb
    rcases out_cases s with ho | ⟨x, n, ho⟩
    · rw [stepR_none hb ho]
      obtain ⟨s2, o2, l2, hA, hI⟩ := once_first hT now rfl ho
      exact ⟨s2, done, out, o2, l2, Or.inl ⟨rfl, rfl, rfl⟩, hA, hI, (sendS_next _ _).1, (sendS_next _ _).2⟩
    · by_cases hw : now - s.last < s.wait
      · rw [stepR_wait hb ho hw]
        exact ⟨sent, done, out, out, last, Or.inl ⟨rfl, rfl, rfl⟩, Or.inl ⟨rfl, rfl, rfl, rfl⟩, hT, rfl, rfl⟩
      obtain ⟨⟨m1, _, _, t1, t2⟩, p1, p2⟩ := h.ok.omay x n ho
      obtain ⟨o1, o2, o3, o4⟩ := h.outS x n ho
      by_cases hn : n < s.again + 1
      · rw [stepR_again hb ho hw hn]
        obtain ⟨h1, h2, h3, h4, h5, h6, h7⟩ := once_again h now hb ho hw hn
        refine ⟨updF sent x.tk (n + 1), done, out, x.tk, x, Or.inl ⟨rfl, rfl, rfl⟩, Or.inr ⟨x, rfl, h5, h6, h2, by rw [h3]; omega, by rw [h3]; omega, Or.inr h7.symm, h4, by rw [h3], rfl, rfl⟩, h1, rfl, rfl⟩
      · rw [stepR_late hb ho hw hn]
        have hL := once_done h ho (lateS s now x) (mOk_late h.ok now hb x) rfl rfl rfl
        obtain ⟨s2, q2, l2, hA, hI⟩ := once_first hL now rfl rfl
        refine ⟨s2, updF done x.tk true, 0, q2, l2, Or.inr ⟨_, rfl, t1, t2, o3, by rw [o2]; omega, o1.symm, fun _ => by rw [o2]; omega, rfl, rfl⟩, hA, hI, (sendS_next _ _).1, (sendS_next _ _).2⟩
theorem once_came (h : OnceI s sent done out last) (now u : Int) (b : List UInt8) :
    ∃ done1 out1, OnceD s.again s.next sent done out (cameR s now u b).1 done1 out1 ∧ OnceI (cameR s now u b).2.2 sent done1 out1 last ∧ (cameR s now u b).2.2.next = s.next ∧ (cameR s now u b).2.2.again = s.again := by
  cases hb : tickBad s now with
  | true =>
    rw [cameR_bad hb]
    exact ⟨done, out, Or.inl ⟨rfl, rfl, rfl⟩, h, rfl, rfl⟩
  | false =>
    have hT := once_tick h now hb
    rcases out_cases s with ho | ⟨x, n, ho⟩
    · rw [cameR_none hb ho]
      exact ⟨done, out, Or.inl ⟨rfl, rfl, rfl⟩, hT, rfl, rfl⟩
    · by_cases hu : x.u = u
      · cases ha : ansParseL x.r b with
        | none =>
          rw [cameR_no hb ho hu ha]
          exact ⟨done, out, Or.inl ⟨rfl, rfl, rfl⟩, hT, rfl, rfl⟩
        | some a =>
          rw [cameR_yes hb ho hu ha]
          obtain ⟨⟨m1, _, _, t1, t2⟩, p1, p2⟩ := h.ok.omay x n ho
          obtain ⟨o1, o2, o3, o4⟩ := h.outS x n ho
          have hk := mOk_came h.ok now u b
          rw [cameR_yes hb ho hu ha] at hk
          refine ⟨updF done x.tk true, 0, Or.inr ⟨_, rfl, t1, t2, o3, by rw [o2]; omega, o1.symm, (fun hl => by cases hl), rfl, rfl⟩, once_done h ho { s with now := now, out := none } hk rfl rfl rfl, rfl, rfl⟩
      · rw [cameR_unit hb ho hu]
        exact ⟨done, out, Or.inl ⟨rfl, rfl, rfl⟩, hT, rfl, rfl⟩
/-- What is out is the last that was sent, and may be. -/
theorem once_may (h : OnceI s sent done out last) (ho : 0 < out) : last.r.may = true := by
  rcases out_cases s with e | ⟨x, n, e⟩
  · have := h.outN e
    omega
  · obtain ⟨o1, o2, o3, o4⟩ := h.outS x n e
    rw [o4]
    exact (h.ok.omay x n e).1.1
end
end Go.Proofs.Ytfpfijggmfeejaa
