/-
  What is proved here: masters as layer 7's plain functions have them whose units never rest (again 1, rest 0), and masters that are always answered: what is sent comes in the order in which it was asked. No condition of its own; nothing of the program is named.
-/
import Derived.Test.YtnialjikpoembaaMsMath3
namespace Go.Proofs.Ytnialjikpoembaa
set_option linter.unusedVariables false
set_option linter.unusedSimpArgs false
open Go.RowKit

/-- What is asked, one behind the other: tickets from k on. -/
def askedL (r : Nat → Rq) : Nat → List Int → List Wt
  | _, [] => []
  | k, u :: us => ⟨k + 1, u, r k⟩ :: askedL r (k + 1) us
theorem askedL_length (r : Nat → Rq) : ∀ k us, (askedL r k us).length = us.length
  | _, [] => rfl
  | k, u :: us => by simp [askedL, askedL_length r (k + 1) us]
theorem askedL_append (r : Nat → Rq) : ∀ k us v, askedL r k (us ++ [v]) = askedL r k us ++ [⟨k + us.length + 1, v, r (k + us.length)⟩]
  | k, [], v => rfl
  | k, u :: us, v => by
    show _ :: askedL r (k + 1) (us ++ [v]) = _
    rw [askedL_append r (k + 1) us v]
    have e : k + 1 + us.length = k + (u :: us).length := by simp; omega
    rw [e]
    rfl
theorem askedL_get (r : Nat → Rq) : ∀ k us i (h : i < us.length), (askedL r k us)[i]? = some ⟨k + i + 1, us[i], r (k + i)⟩
  | _, [], i, h => by simp at h
  | k, u :: us, 0, _ => rfl
  | k, u :: us, i + 1, h => by
    show (askedL r (k + 1) us)[i]? = _
    rw [askedL_get r (k + 1) us i (by simpa using h)]
    have e : k + 1 + i = k + (i + 1) := by omega
    rw [e]
    simp
theorem askedL_drop (r : Nat → Rq) (us : List Int) (i : Nat) (h : i < us.length) : (askedL r 0 us).drop i = ⟨i + 1, us[i], r i⟩ :: (askedL r 0 us).drop (i + 1) := by
  have hl := askedL_length r 0 us
  have hg := askedL_get r 0 us i h
  rw [Nat.zero_add] at hg
  rw [List.drop_eq_getElem_cons (by omega)]
  congr 1
  rw [List.getElem?_eq_getElem (by omega)] at hg
  injection hg
/-- A master that was asked so, and nothing else. -/
def AskI (w a R : Int) (r : Nat → Rq) (us : List Int) (s : MSt) : Prop := s = { mNew w a R with next := us.length, line := askedL r 0 us }
theorem askI_new (w a R : Int) (r : Nat → Rq) : AskI w a R r [] (mNew w a R) := rfl
theorem askI_ask {w a R : Int} {r : Nat → Rq} {us : List Int} {s : MSt} (h : AskI w a R r us s) (u : Int) (h0 : 0 ≤ u) (h1 : u ≤ 247) (hm : (r us.length).may = true) (hl : us.length < 64) :
    askE s u (r us.length) = 0 ∧ askT s u (r us.length) = ((us.length + 1 : Nat) : Int) ∧ AskI w a R r (us ++ [u]) (askS s u (r us.length)) := by
  unfold AskI at h
  subst h
  have hE : askE { mNew w a R with next := us.length, line := askedL r 0 us } u (r us.length) = 0 := by
    unfold askE
    rw [hm, if_neg (by simp; omega), if_neg (by show ¬ 64 ≤ (askedL r 0 us).length; rw [askedL_length]; omega)]
  refine ⟨hE, ?_, ?_⟩
  · unfold askT
    rw [if_pos hE]
  · unfold askS AskI
    rw [if_pos hE]
    have e1 : (us ++ [u]).length = us.length + 1 := by simp
    rw [e1, askedL_append, Nat.zero_add]

/-- Ahead of a step: next is the ticket of the one that is sent next. -/
structure OI (w : Int) (us : List Int) (nx : Nat) (s : MSt) : Prop where
  hw : s.wait = w
  ha : s.again = 1
  hr : s.rest = 0
  n1 : 1 ≤ nx
  n2 : nx ≤ us.length + 1
  line : s.line = (askedL (fun _ => ⟨3, 0, 1, [], 0, 0, 0⟩) 0 us).drop (nx - 1)
  till : ∀ u, s.till u ≤ s.now
  out : ∀ x t, s.out = some (x, t) → x.tk + 1 = nx
theorem oi_start {w : Int} {us : List Int} {s : MSt} (h : AskI w 1 0 (fun _ => ⟨3, 0, 1, [], 0, 0, 0⟩) us s) : OI w us 1 s := by
  unfold AskI at h
  subst h
  exact ⟨rfl, rfl, rfl, Nat.le_refl _, by omega, rfl, fun _ => Int.le_refl _, fun x t e => by cases e⟩
/-- What a step tells. -/
def OO (w : Int) (us : List Int) (nx : Nat) (A : List Wt) (s : MSt) : Prop :=
  (A = [] ∧ OI w us nx s) ∨ (∃ x, A = [x] ∧ x.tk + 1 = nx ∧ OI w us nx s) ∨ (∃ x, A = [x] ∧ x.tk = nx ∧ us[nx - 1]? = some x.u ∧ nx ≤ us.length ∧ OI w us (nx + 1) s)
theorem oi_send {w : Int} {us : List Int} {nx : Nat} {s : MSt} (h : OI w us nx s) (now : Int) (hn : s.now = now) (ho : s.out = none) : OO w us nx (sendS s now).1 (sendS s now).2 := by
  by_cases hl : nx ≤ us.length
  · have hd := askedL_drop (fun _ => ⟨3, 0, 1, [], 0, 0, 0⟩) us (nx - 1) (by have := h.n1; omega)
    have e : nx - 1 + 1 = nx := by have := h.n1; omega
    rw [e] at hd
    have hf : freeAt s.till now s.line = some ([], ⟨nx, us[nx - 1]'(by have := h.n1; omega), ⟨3, 0, 1, [], 0, 0, 0⟩⟩, (askedL (fun _ => ⟨3, 0, 1, [], 0, 0, 0⟩) 0 us).drop nx) := by
      rw [h.line, hd]
      exact freeAt_one (by rw [← hn]; exact h.till _)
    rw [sendS_some hf]
    refine Or.inr (Or.inr ⟨_, rfl, rfl, List.getElem?_eq_getElem _, hl, ⟨h.hw, h.ha, h.hr, by omega, by omega, rfl, h.till, ?_⟩⟩)
    intro x t e
    injection e with e
    injection e with e _
    subst e
    rfl
  · have hf : freeAt s.till now s.line = none := by
      rw [h.line, List.drop_eq_nil_of_le (by rw [askedL_length]; have := h.n1; omega)]
      rfl
    rw [sendS_none hf]
    exact Or.inl ⟨rfl, h⟩
theorem oi_step {w : Int} {us : List Int} {nx : Nat} {s : MSt} (h : OI w us nx s) (now : Int) (h0 : 0 ≤ now) (h1 : s.now ≤ now) : OO w us nx (stepR s now).1 (stepR s now).2.2.2 ∧ (stepR s now).2.2.1 = 0 ∧ (stepR s now).2.2.2.now = now := by
  have hb := tick_ok h0 h1
  have hT : OI w us nx { s with now := now } := ⟨h.hw, h.ha, h.hr, h.n1, h.n2, h.line, (fun u => by have := h.till u; show s.till u ≤ now; omega), h.out⟩
  have hnow : ∀ (s' : MSt), s'.now = now → (sendS s' now).2.now = now := by
    intro s' e
    unfold sendS
    split
    · exact e
    · exact e
  rcases out_cases s with ho | ⟨x, t, ho⟩
  · rw [stepR_none hb ho]
    exact ⟨oi_send hT now rfl ho, rfl, hnow _ rfl⟩
  · by_cases hd : now - s.last < s.wait
    · rw [stepR_wait hb ho hd]
      exact ⟨Or.inl ⟨rfl, hT⟩, rfl, rfl⟩
    by_cases ht : t < s.again + 1
    · rw [stepR_again hb ho hd ht]
      refine ⟨Or.inr (Or.inl ⟨x, rfl, h.out x t ho, ⟨h.hw, h.ha, h.hr, h.n1, h.n2, h.line, hT.till, ?_⟩⟩), rfl, rfl⟩
      intro y t' e
      injection e with e
      injection e with e _
      subst e
      exact h.out x t ho
    · rw [stepR_late hb ho hd ht]
      have hL : OI w us nx (lateS s now x) := by
        refine ⟨h.hw, h.ha, h.hr, h.n1, h.n2, h.line, ?_, ?_⟩
        · intro u
          show (if u = x.u then now + s.rest else s.till u) ≤ now
          have := h.till u
          have := h.hr
          split <;> omega
        · intro y t' e
          cases e
      exact ⟨oi_send hL now rfl rfl, rfl, hnow _ rfl⟩
/-! ### If each is answered -/
def unitsL (n : Nat) : List Int := (List.range n).map fun (i : Nat) => (i : Int)
theorem unitsL_length (n : Nat) : (unitsL n).length = n := by simp [unitsL]
theorem unitsL_get (n i : Nat) (h : i < (unitsL n).length) : (unitsL n)[i] = (i : Int) := by simp [unitsL]
theorem unitsL_succ (n : Nat) : unitsL (n + 1) = unitsL n ++ [(n : Int)] := by simp [unitsL, List.range_succ]
/-- Ahead of the i-th step. -/
structure AI (r : Nat → Rq) (n i : Nat) (s : MSt) : Prop where
  out : s.out = none
  line : s.line = (askedL r 0 (unitsL n)).drop i
  now : s.now ≤ i
  till : ∀ u, s.till u = 0
/-- The i-th is out. -/
structure AO (r : Nat → Rq) (n i : Nat) (s : MSt) : Prop where
  out : s.out = some (⟨i + 1, i, r i⟩, 1)
  line : s.line = (askedL r 0 (unitsL n)).drop (i + 1)
  now : s.now = i
  till : ∀ u, s.till u = 0
theorem ai_start {w a R : Int} {r : Nat → Rq} {n : Nat} {s : MSt} (h : AskI w a R r (unitsL n) s) : AI r n 0 s := by
  unfold AskI at h
  subst h
  exact ⟨rfl, rfl, Int.le_refl _, fun _ => rfl⟩
theorem ai_step {r : Nat → Rq} {n i : Nat} {s : MSt} (h : AI r n i s) (hi : i < n) : (stepR s i).1 = [⟨i + 1, i, r i⟩] ∧ (stepR s i).2.1 = [] ∧ (stepR s i).2.2.1 = 0 ∧ AO r n i (stepR s i).2.2.2 := by
  have hl : i < (unitsL n).length := by rw [unitsL_length]; exact hi
  have hd := askedL_drop r (unitsL n) i hl
  rw [unitsL_get n i hl] at hd
  rw [stepR_none (tick_ok (by omega) h.now) h.out]
  have hf : freeAt s.till i s.line = some ([], ⟨i + 1, i, r i⟩, (askedL r 0 (unitsL n)).drop (i + 1)) := by
    rw [h.line, hd]
    exact freeAt_one (by rw [h.till]; omega)
  have hs := sendS_some (s := { s with now := i }) hf
  rw [hs]
  exact ⟨rfl, rfl, rfl, ⟨rfl, rfl, rfl, h.till⟩⟩
theorem ao_unit {r : Nat → Rq} {n i : Nat} {s : MSt} (h : AO r n i s) (u : Int) (hu : ¬ (i : Int) = u) (b : List UInt8) : (cameR s i u b).1 = [] ∧ (cameR s i u b).2.1 = 5 ∧ AO r n i (cameR s i u b).2.2 := by
  rw [cameR_unit (tick_ok (by omega) (by rw [h.now]; exact Int.le_refl _)) h.out hu]
  exact ⟨rfl, rfl, ⟨h.out, h.line, rfl, h.till⟩⟩
theorem ao_yes {r : Nat → Rq} {n i : Nat} {s : MSt} (h : AO r n i s) (b : List UInt8) (x : An) (hp : ansParseL (r i) b = some x) : (cameR s i i b).1 = [⟨i + 1, x, false⟩] ∧ (cameR s i i b).2.1 = 0 ∧ AI r n (i + 1) (cameR s i i b).2.2 := by
  rw [cameR_yes (tick_ok (by omega) (by rw [h.now]; exact Int.le_refl _)) h.out rfl hp]
  exact ⟨rfl, rfl, ⟨rfl, h.line, by show (i : Int) ≤ ((i + 1 : Nat) : Int); omega, h.till⟩⟩
theorem ai_end {r : Nat → Rq} {n : Nat} {s : MSt} (h : AI r n n s) : mCount s = 0 := by
  unfold mCount
  rw [h.out, h.line, List.drop_eq_nil_of_le (by rw [askedL_length, unitsL_length]; exact Nat.le_refl _)]
  rfl
end Go.Proofs.Ytnialjikpoembaa
