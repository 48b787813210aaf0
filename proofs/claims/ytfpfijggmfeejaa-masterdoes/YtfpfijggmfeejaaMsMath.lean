/-
  What is proved here: layer 7 as plain functions: a master that is asked, steps, and hears answers; what it keeps to (each is done once at most, sent so often at most, one is out at a time; the order in which requests are sent). No condition of its own; nothing of the program is named.
-/
import Derived.Test.YtfpfijggmfeejaaPduMath2
namespace Go.Proofs.Ytfpfijggmfeejaa
set_option linter.unusedVariables false
set_option linter.unusedSimpArgs false
open Go.RowKit

/-- One that was asked: its ticket, its unit, the request. -/
structure Wt where
  tk : Nat
  u : Int
  r : Rq
/-- What came of one. -/
structure Dn where
  tk : Nat
  an : An
  late : Bool
/-- A master. -/
structure MSt where
  wait : Int
  again : Int
  rest : Int
  now : Int
  last : Int
  next : Nat
  line : List Wt
  out : Option (Wt × Int)
  till : Int → Int
def mMay (w a r : Int) : Bool := decide (1 ≤ w) && decide (0 ≤ a) && decide (a ≤ 16) && decide (0 ≤ r)
def mNew (w a r : Int) : MSt := ⟨w, a, r, 0, 0, 0, [], none, fun _ => 0⟩
def outN : Option (Wt × Int) → Nat
  | none => 0
  | some _ => 1
def mCount (s : MSt) : Nat := s.line.length + outN s.out
/-- Ask. -/
def askE (s : MSt) (u : Int) (r : Rq) : Int := if u < 0 ∨ 247 < u ∨ r.may = false then 1 else if 64 ≤ s.line.length then 6 else 0
def askT (s : MSt) (u : Int) (r : Rq) : Int := if askE s u r = 0 then ((s.next + 1 : Nat) : Int) else 0
def askS (s : MSt) (u : Int) (r : Rq) : MSt := if askE s u r = 0 then { s with next := s.next + 1, line := s.line ++ [⟨s.next + 1, u, r⟩] } else s
/-- The first one whose unit does not rest: what stands ahead of it, it, what stands behind. -/
def freeAt (till : Int → Int) (now : Int) : List Wt → Option (List Wt × Wt × List Wt)
  | [] => none
  | w :: l => if till w.u ≤ now then some ([], w, l) else
    match freeAt till now l with
    | none => none
    | some (a, x, b) => some (w :: a, x, b)
def tickBad (s : MSt) (now : Int) : Bool := decide (now < 0) || decide (now < s.now)
/-- If none is out: what is sent first, and the master then. -/
def sendS (s : MSt) (now : Int) : List Wt × MSt :=
  match freeAt s.till now s.line with
  | none => ([], s)
  | some (a, x, b) => ([x], { s with line := a ++ b, out := some (x, 1), last := now })
/-- Late: its unit rests. -/
def lateS (s : MSt) (now : Int) (x : Wt) : MSt := { s with now := now, out := none, till := fun u => if u = x.u then now + s.rest else s.till u }
/-- Step: what is sent, what is done, the error, the master then. -/
def stepR (s : MSt) (now : Int) : List Wt × List Dn × Int × MSt :=
  if tickBad s now then ([], [], 1, s)
  else match s.out with
    | none => ((sendS { s with now := now } now).1, [], 0, (sendS { s with now := now } now).2)
    | some (x, n) =>
      if now - s.last < s.wait then ([], [], 0, { s with now := now })
      else if n < s.again + 1 then ([x], [], 0, { s with now := now, out := some (x, n + 1), last := now })
      else ((sendS (lateS s now x) now).1, [⟨x.tk, An.none, true⟩], 0, (sendS (lateS s now x) now).2)
/-- Came: what is done, the error, the master then. -/
def cameR (s : MSt) (now u : Int) (b : List UInt8) : List Dn × Int × MSt :=
  if tickBad s now then ([], 1, s)
  else match s.out with
    | none => ([], 5, { s with now := now })
    | some (x, _) =>
      if x.u = u then
        match ansParseL x.r b with
        | none => ([], 5, { s with now := now })
        | some a => ([⟨x.tk, a, false⟩], 0, { s with now := now, out := none })
      else ([], 5, { s with now := now })

/-! ### Case by case -/
theorem stepR_bad {s : MSt} {now : Int} (hb : tickBad s now = true) : stepR s now = ([], [], 1, s) := by unfold stepR; rw [hb]; rfl
theorem stepR_none {s : MSt} {now : Int} (hb : tickBad s now = false) (ho : s.out = none) : stepR s now = ((sendS { s with now := now } now).1, [], 0, (sendS { s with now := now } now).2) := by
  obtain ⟨a1, a2, a3, a4, a5, a6, a7, a8, a9⟩ := s
  simp only at ho
  subst ho
  unfold stepR
  rw [hb]
  rfl
theorem stepR_wait {s : MSt} {now : Int} {x : Wt} {n : Int} (hb : tickBad s now = false) (ho : s.out = some (x, n)) (h : now - s.last < s.wait) : stepR s now = ([], [], 0, { s with now := now }) := by
  obtain ⟨a1, a2, a3, a4, a5, a6, a7, a8, a9⟩ := s
  simp only at ho h
  subst ho
  unfold stepR
  rw [hb]
  simp only [Bool.false_eq_true, if_false]
  rw [if_pos h]
theorem stepR_again {s : MSt} {now : Int} {x : Wt} {n : Int} (hb : tickBad s now = false) (ho : s.out = some (x, n)) (h : ¬ now - s.last < s.wait) (hn : n < s.again + 1) : stepR s now = ([x], [], 0, { s with now := now, out := some (x, n + 1), last := now }) := by
  obtain ⟨a1, a2, a3, a4, a5, a6, a7, a8, a9⟩ := s
  simp only at ho h hn
  subst ho
  unfold stepR
  rw [hb]
  simp only [Bool.false_eq_true, if_false]
  rw [if_neg h, if_pos hn]
theorem stepR_late {s : MSt} {now : Int} {x : Wt} {n : Int} (hb : tickBad s now = false) (ho : s.out = some (x, n)) (h : ¬ now - s.last < s.wait) (hn : ¬ n < s.again + 1) : stepR s now = ((sendS (lateS s now x) now).1, [⟨x.tk, An.none, true⟩], 0, (sendS (lateS s now x) now).2) := by
  obtain ⟨a1, a2, a3, a4, a5, a6, a7, a8, a9⟩ := s
  simp only at ho h hn
  subst ho
  unfold stepR
  rw [hb]
  simp only [Bool.false_eq_true, if_false]
  rw [if_neg h, if_neg hn]
theorem cameR_bad {s : MSt} {now u : Int} {b : List UInt8} (hb : tickBad s now = true) : cameR s now u b = ([], 1, s) := by unfold cameR; rw [hb]; rfl
theorem cameR_none {s : MSt} {now u : Int} {b : List UInt8} (hb : tickBad s now = false) (ho : s.out = none) : cameR s now u b = ([], 5, { s with now := now }) := by
  obtain ⟨a1, a2, a3, a4, a5, a6, a7, a8, a9⟩ := s
  simp only at ho
  subst ho
  unfold cameR
  rw [hb]
  rfl
theorem cameR_unit {s : MSt} {now u : Int} {b : List UInt8} {x : Wt} {n : Int} (hb : tickBad s now = false) (ho : s.out = some (x, n)) (hu : ¬ x.u = u) : cameR s now u b = ([], 5, { s with now := now }) := by
  obtain ⟨a1, a2, a3, a4, a5, a6, a7, a8, a9⟩ := s
  simp only at ho
  subst ho
  unfold cameR
  rw [hb]
  simp only [Bool.false_eq_true, if_false]
  rw [if_neg hu]
theorem cameR_no {s : MSt} {now u : Int} {b : List UInt8} {x : Wt} {n : Int} (hb : tickBad s now = false) (ho : s.out = some (x, n)) (hu : x.u = u) (ha : ansParseL x.r b = none) : cameR s now u b = ([], 5, { s with now := now }) := by
  obtain ⟨a1, a2, a3, a4, a5, a6, a7, a8, a9⟩ := s
  simp only at ho
  subst ho
  unfold cameR
  rw [hb]
  simp only [Bool.false_eq_true, if_false]
  rw [if_pos hu, ha]
theorem cameR_yes {s : MSt} {now u : Int} {b : List UInt8} {x : Wt} {n : Int} {a : An} (hb : tickBad s now = false) (ho : s.out = some (x, n)) (hu : x.u = u) (ha : ansParseL x.r b = some a) : cameR s now u b = ([⟨x.tk, a, false⟩], 0, { s with now := now, out := none }) := by
  obtain ⟨a1, a2, a3, a4, a5, a6, a7, a8, a9⟩ := s
  simp only at ho
  subst ho
  unfold cameR
  rw [hb]
  simp only [Bool.false_eq_true, if_false]
  rw [if_pos hu, ha]

/-! ### The first one that does not rest -/
theorem freeAt_some {till : Int → Int} {now : Int} : ∀ {l a : List Wt} {x : Wt} {b : List Wt}, freeAt till now l = some (a, x, b) → l = a ++ x :: b ∧ till x.u ≤ now ∧ ∀ y ∈ a, now < till y.u
  | [], _, _, _, h => by simp [freeAt] at h
  | w :: l, a, x, b, h => by
    unfold freeAt at h
    by_cases hw : till w.u ≤ now
    · rw [if_pos hw] at h
      injection h with h
      injection h with h1 h2
      injection h2 with h2 h3
      subst h1 h2 h3
      exact ⟨rfl, hw, by simp⟩
    · rw [if_neg hw] at h
      match hf : freeAt till now l with
      | none => rw [hf] at h; cases h
      | some (a', x', b') =>
        rw [hf] at h
        injection h with h
        injection h with h1 h2
        injection h2 with h2 h3
        subst h1 h2 h3
        obtain ⟨e, h4, h5⟩ := freeAt_some hf
        refine ⟨by rw [e]; rfl, h4, ?_⟩
        intro y hy
        rcases List.mem_cons.1 hy with rfl | hy
        · omega
        · exact h5 y hy
theorem freeAt_none {till : Int → Int} {now : Int} : ∀ {l : List Wt}, freeAt till now l = none → ∀ y ∈ l, now < till y.u
  | [], _ => by simp
  | w :: l, h => by
    unfold freeAt at h
    by_cases hw : till w.u ≤ now
    · rw [if_pos hw] at h; cases h
    · rw [if_neg hw] at h
      match hf : freeAt till now l with
      | none =>
        intro y hy
        rcases List.mem_cons.1 hy with rfl | hy
        · omega
        · exact freeAt_none hf y hy
      | some (a', x', b') => rw [hf] at h; cases h
/-- Found by going through: the ones ahead rest, this one does not. -/
theorem freeAt_at {till : Int → Int} {now : Int} : ∀ (l : List Wt) (i : Nat) (x : Wt), l[i]? = some x → (∀ y ∈ l.take i, now < till y.u) → till x.u ≤ now → freeAt till now l = some (l.take i, x, l.drop (i + 1))
  | [], _, _, h, _, _ => by simp at h
  | w :: l, 0, x, h, _, hx => by
    simp at h
    subst h
    unfold freeAt
    rw [if_pos hx]
    rfl
  | w :: l, i + 1, x, h, hy, hx => by
    have hw := hy w (by simp)
    unfold freeAt
    rw [if_neg (by omega), freeAt_at l i x (by simpa using h) (fun y h' => hy y (by simp [h'])) hx]
    rfl
theorem freeAt_all {till : Int → Int} {now : Int} : ∀ (l : List Wt), (∀ y ∈ l, now < till y.u) → freeAt till now l = none
  | [], _ => rfl
  | w :: l, h => by
    have hw := h w (by simp)
    unfold freeAt
    rw [if_neg (by omega), freeAt_all l (fun y hy => h y (by simp [hy]))]

/-! ### What a master keeps to -/
structure MOk (s : MSt) : Prop where
  w1 : 1 ≤ s.wait
  a0 : 0 ≤ s.again
  a16 : s.again ≤ 16
  r0 : 0 ≤ s.rest
  n0 : 0 ≤ s.now
  l0 : 0 ≤ s.last
  l1 : s.last ≤ s.now
  len : s.line.length ≤ 64
  may : ∀ x ∈ s.line, x.r.may = true ∧ 0 ≤ x.u ∧ x.u ≤ 247 ∧ 1 ≤ x.tk ∧ x.tk ≤ s.next
  omay : ∀ x n, s.out = some (x, n) → (x.r.may = true ∧ 0 ≤ x.u ∧ x.u ≤ 247 ∧ 1 ≤ x.tk ∧ x.tk ≤ s.next) ∧ 1 ≤ n ∧ n ≤ s.again + 1
  up : s.line.Pairwise (fun x y => x.tk < y.tk)
  apart : ∀ x n, s.out = some (x, n) → ∀ y ∈ s.line, y.tk ≠ x.tk
  till0 : ∀ u, 0 ≤ s.till u
  till1 : ∀ u, s.till u ≤ s.now + s.rest
theorem mOk_new (w a r : Int) (h : mMay w a r = true) : MOk (mNew w a r) := by
  simp only [mMay, Bool.and_eq_true, decide_eq_true_eq] at h
  obtain ⟨⟨⟨h1, h2⟩, h3⟩, h4⟩ := h
  exact ⟨h1, h2, h3, h4, Int.le_refl _, Int.le_refl _, Int.le_refl _, Nat.zero_le _, by simp [mNew], by simp [mNew], List.Pairwise.nil, by simp [mNew], fun _ => Int.le_refl _, fun u => by show (0 : Int) ≤ 0 + r; omega⟩
theorem askE_zero {s : MSt} {u : Int} {r : Rq} (h : askE s u r = 0) : 0 ≤ u ∧ u ≤ 247 ∧ r.may = true ∧ s.line.length < 64 := by
  unfold askE at h
  split at h
  · cases h
  · rename_i h1
    split at h
    · cases h
    · refine ⟨by omega, by omega, ?_, by omega⟩
      cases hm : r.may with
      | true => rfl
      | false => exact absurd (Or.inr (Or.inr hm)) h1
theorem mOk_ask {s : MSt} (h : MOk s) (u : Int) (r : Rq) : MOk (askS s u r) := by
  unfold askS
  split
  · rename_i he
    obtain ⟨h1, h2, h3, h4⟩ := askE_zero he
    refine ⟨h.w1, h.a0, h.a16, h.r0, h.n0, h.l0, h.l1, ?_, ?_, ?_, ?_, ?_, h.till0, h.till1⟩
    · show (s.line ++ [_]).length ≤ 64
      rw [List.length_append]
      show s.line.length + 1 ≤ 64
      omega
    · intro x hx
      rcases List.mem_append.1 hx with hx | hx
      · obtain ⟨a, b, c, d, e⟩ := h.may x hx
        exact ⟨a, b, c, d, by show x.tk ≤ s.next + 1; omega⟩
      · simp at hx
        subst hx
        exact ⟨h3, h1, h2, by show 1 ≤ s.next + 1; omega, Nat.le_refl _⟩
    · intro x n hx
      obtain ⟨⟨a, b, c, d, e⟩, f, g⟩ := h.omay x n hx
      exact ⟨⟨a, b, c, d, by show x.tk ≤ s.next + 1; omega⟩, f, g⟩
    · refine List.pairwise_append.2 ⟨h.up, List.pairwise_singleton _ _, ?_⟩
      intro x hx y hy
      simp at hy
      subst hy
      have := (h.may x hx).2.2.2.2
      show x.tk < s.next + 1
      omega
    · intro x n hx y hy
      rcases List.mem_append.1 hy with hy | hy
      · exact h.apart x n hx y hy
      · simp at hy
        subst hy
        have := (h.omay x n hx).1.2.2.2.2
        show s.next + 1 ≠ x.tk
        omega
  · exact h
theorem mOk_tick {s : MSt} (h : MOk s) (now : Int) (hb : tickBad s now = false) : MOk { s with now := now } := by
  unfold tickBad at hb
  rw [Bool.or_eq_false_iff, decide_eq_false_iff_not, decide_eq_false_iff_not] at hb
  exact ⟨h.w1, h.a0, h.a16, h.r0, by show 0 ≤ now; omega, h.l0, by have := h.l1; show s.last ≤ now; omega, h.len, h.may, h.omay, h.up, h.apart, h.till0, fun u => by have := h.till1 u; show s.till u ≤ now + s.rest; omega⟩
theorem mOk_send {s : MSt} (h : MOk s) (now : Int) (hn : s.now = now) (ho : s.out = none) : MOk (sendS s now).2 := by
  unfold sendS
  match hf : freeAt s.till now s.line with
  | none => exact h
  | some (a, x, b) =>
    obtain ⟨e, h1, h2⟩ := freeAt_some hf
    have hup := h.up
    rw [e] at hup
    have hmem : ∀ y, y ∈ a ++ b → y ∈ s.line := by
      intro y hy
      rw [e]
      rcases List.mem_append.1 hy with hy | hy
      · exact List.mem_append_left _ hy
      · exact List.mem_append_right _ (List.mem_cons_of_mem _ hy)
    have hx : x ∈ s.line := by rw [e]; exact List.mem_append_right _ (List.mem_cons_self ..)
    obtain ⟨p1, p2, p3⟩ := List.pairwise_append.1 hup
    obtain ⟨p4, p5⟩ := List.pairwise_cons.1 p2
    refine ⟨h.w1, h.a0, h.a16, h.r0, h.n0, ?_, ?_, ?_, fun y hy => h.may y (hmem y hy), ?_, ?_, ?_, h.till0, h.till1⟩
    · show 0 ≤ now
      rw [← hn]
      exact h.n0
    · show now ≤ s.now
      omega
    · have := h.len
      rw [e, List.length_append, List.length_cons] at this
      show (a ++ b).length ≤ 64
      rw [List.length_append]
      omega
    · intro y n hy
      injection hy with hy
      injection hy with h3 h4
      subst h3 h4
      exact ⟨h.may _ hx, by omega, by have := h.a0; show (1 : Int) ≤ s.again + 1; omega⟩
    · refine List.pairwise_append.2 ⟨p1, p5, fun y hy z hz => p3 y hy z (List.mem_cons_of_mem _ hz)⟩
    · intro y n hy z hz
      injection hy with hy
      injection hy with h3 h4
      subst h3 h4
      rcases List.mem_append.1 hz with hz | hz
      · have := p3 z hz x (List.mem_cons_self ..)
        omega
      · have := p4 z hz
        omega
theorem mOk_late {s : MSt} (h : MOk s) (now : Int) (hb : tickBad s now = false) (x : Wt) : MOk (lateS s now x) := by
  have h1 := mOk_tick h now hb
  unfold tickBad at hb
  rw [Bool.or_eq_false_iff, decide_eq_false_iff_not, decide_eq_false_iff_not] at hb
  refine ⟨h.w1, h.a0, h.a16, h.r0, h1.n0, h.l0, h1.l1, h.len, h.may, ?_, h.up, ?_, ?_, ?_⟩
  · intro y n hy
    cases hy
  · intro y n hy
    cases hy
  · intro u
    show 0 ≤ (if u = x.u then now + s.rest else s.till u)
    have := h.r0
    have := h.till0 u
    split <;> omega
  · intro u
    show (if u = x.u then now + s.rest else s.till u) ≤ now + s.rest
    have := h.till1 u
    split <;> omega
theorem out_cases (s : MSt) : s.out = none ∨ ∃ x n, s.out = some (x, n) := by
  cases h : s.out with
  | none => exact Or.inl rfl
  | some p => exact Or.inr ⟨p.1, p.2, rfl⟩
theorem mOk_step {s : MSt} (h : MOk s) (now : Int) : MOk (stepR s now).2.2.2 := by
  cases hb : tickBad s now with
  | true => rw [stepR_bad hb]; exact h
  | false =>
    have h1 := mOk_tick h now hb
    rcases out_cases s with ho | ⟨x, n, ho⟩
    · rw [stepR_none hb ho]
      exact mOk_send h1 now rfl ho
    · by_cases hw : now - s.last < s.wait
      · rw [stepR_wait hb ho hw]
        exact h1
      by_cases hn : n < s.again + 1
      · rw [stepR_again hb ho hw hn]
        refine ⟨h.w1, h.a0, h.a16, h.r0, h1.n0, h1.n0, Int.le_refl _, h.len, h.may, ?_, h.up, ?_, h.till0, h1.till1⟩
        · intro y m hy
          injection hy with hy
          injection hy with h4 h5
          subst h4 h5
          obtain ⟨p, q, r⟩ := h.omay x n ho
          exact ⟨p, by omega, by show n + 1 ≤ s.again + 1; omega⟩
        · intro y m hy
          injection hy with hy
          injection hy with h4 h5
          subst h4
          exact h.apart x n ho
      · rw [stepR_late hb ho hw hn]
        exact mOk_send (mOk_late h now hb x) now rfl rfl
theorem mOk_came {s : MSt} (h : MOk s) (now u : Int) (b : List UInt8) : MOk (cameR s now u b).2.2 := by
  cases hb : tickBad s now with
  | true => rw [cameR_bad hb]; exact h
  | false =>
    have h1 := mOk_tick h now hb
    rcases out_cases s with ho | ⟨x, n, ho⟩
    · rw [cameR_none hb ho]
      exact h1
    · by_cases hu : x.u = u
      · cases ha : ansParseL x.r b with
        | none => rw [cameR_no hb ho hu ha]; exact h1
        | some a =>
          rw [cameR_yes hb ho hu ha]
          refine ⟨h.w1, h.a0, h.a16, h.r0, h1.n0, h1.l0, h1.l1, h.len, h.may, ?_, h.up, ?_, h.till0, h1.till1⟩
          · intro y m hy
            cases hy
          · intro y m hy
            cases hy
      · rw [cameR_unit hb ho hu]
        exact h1

end Go.Proofs.Ytfpfijggmfeejaa
