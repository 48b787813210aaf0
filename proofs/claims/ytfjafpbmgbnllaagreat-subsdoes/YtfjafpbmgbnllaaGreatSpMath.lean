/-
  What is proved here: the program's index of layer 13 as a list of entries with turns; what it finds, in whatever order its maps are gone through. No condition.
-/
import Derived.Test.YtfjafpbmgbnllaaGreatSbMath3
import Derived.Sort.KeysCollected
import Derived.Sort.Statements
namespace Go.Proofs.YtfjafpbmgbnllaaGreat
set_option linter.unusedVariables false
set_option linter.unusedSimpArgs false
open Go.RowKit

/-- A client, a filter, a quality, a turn. -/
structure PE where
  c : List UInt8
  f : List UInt8
  q : Int
  t : Int
def PE.se (e : PE) : SE := ⟨e.c, e.f, e.q⟩
def PE.k (e : PE) : List UInt8 × List UInt8 := (e.c, e.f)
def ses (L : List PE) : List SE := L.map PE.se
def addP : List PE → List UInt8 → List UInt8 → Int → Int → List PE
  | [], c, f, q, t => [⟨c, f, q, t⟩]
  | a :: L, c, f, q, t => if a.c = c ∧ a.f = f then ⟨a.c, a.f, q, a.t⟩ :: L else a :: addP L c f q t
def dropP (L : List PE) (c f : List UInt8) : List PE := L.filter fun e => keepE c f e.se
def hadP (L : List PE) (c f : List UInt8) : Bool := L.any fun e => decide (e.c = c) && decide (e.f = f)
/-- The turn, the quality of a filter. -/
def trn : List PE → List UInt8 → List UInt8 → Int → Int
  | [], _, _, t => t
  | a :: L, c, f, t => if a.c = c ∧ a.f = f then a.t else trn L c f t
def qOf : List PE → List UInt8 → List UInt8 → Int
  | [], _, _ => 0
  | a :: L, c, f => if a.c = c ∧ a.f = f then a.q else qOf L c f
theorem hadP_iff (L : List PE) (c f : List UInt8) : hadP L c f = true ↔ ∃ e ∈ L, e.c = c ∧ e.f = f := by simp [hadP]
theorem hadP_no {L : List PE} {c f : List UInt8} (h : hadP L c f = false) : ∀ e ∈ L, ¬ (e.c = c ∧ e.f = f) := fun e he x => by
  rw [(hadP_iff L c f).2 ⟨e, he, x⟩] at h
  cases h
theorem hadE_ses (L : List PE) (c f : List UInt8) : hadE (ses L) c f = hadP L c f := by
  rw [Bool.eq_iff_iff, hadE_iff, hadP_iff]
  constructor
  · rintro ⟨e, he, h⟩
    obtain ⟨p, hp, rfl⟩ := List.mem_map.1 he
    exact ⟨p, hp, h⟩
  · rintro ⟨p, hp, h⟩
    exact ⟨p.se, List.mem_map.2 ⟨p, hp, rfl⟩, h⟩
theorem addE_hit (a : SE) (es : List SE) (c f : List UInt8) (q : Int) (h : a.c = c ∧ a.f = f) : addE (a :: es) c f q = ⟨c, f, q⟩ :: es := by
  have hi : idxE (a :: es) c f = 0 := by
    unfold idxE
    rw [List.findIdx_cons, (atE_iff c f a).2 h]
    rfl
  unfold addE
  rw [hi, if_pos (by simp)]
  rfl
theorem addE_miss (a : SE) (es : List SE) (c f : List UInt8) (q : Int) (h : ¬ (a.c = c ∧ a.f = f)) : addE (a :: es) c f q = a :: addE es c f q := by
  have ha : atE c f a = false := by
    cases k : atE c f a with
    | false => rfl
    | true => exact absurd ((atE_iff c f a).1 k) h
  have hi : idxE (a :: es) c f = idxE es c f + 1 := by
    unfold idxE
    rw [List.findIdx_cons, ha]
    rfl
  unfold addE
  rw [hi]
  by_cases hl : idxE es c f < es.length
  · rw [if_pos (by simp [hl]), if_pos hl]
    rfl
  · rw [if_neg (by simpa using hl), if_neg hl]
    rfl
theorem ses_addP (c f : List UInt8) (q t : Int) : ∀ L : List PE, ses (addP L c f q t) = addE (ses L) c f q
  | [] => rfl
  | a :: L => by
    have ih := ses_addP c f q t L
    show ses (if _ then _ else _) = addE (a.se :: ses L) c f q
    by_cases h : a.c = c ∧ a.f = f
    · rw [if_pos h, addE_hit _ _ _ _ _ (show a.se.c = c ∧ a.se.f = f from h), ← h.1, ← h.2]
      rfl
    · rw [if_neg h, addE_miss _ _ _ _ _ (show ¬ (a.se.c = c ∧ a.se.f = f) from h), ← ih]
      rfl
theorem ses_dropP (L : List PE) (c f : List UInt8) : ses (dropP L c f) = dropE (ses L) c f := by
  unfold ses dropP dropE
  rw [List.filter_map]
  rfl
theorem addP_no {L : List PE} {c f : List UInt8} (h : hadP L c f = false) (q t : Int) : addP L c f q t = L ++ [⟨c, f, q, t⟩] := by
  induction L with
  | nil => rfl
  | cons a L ih =>
    have h1 := hadP_no h a (by simp)
    have h2 : hadP L c f = false := by
      unfold hadP at h ⊢
      rw [List.any_cons, Bool.or_eq_false_iff] at h
      exact h.2
    show (if _ then _ else _) = _
    rw [if_neg h1, ih h2]
    rfl
theorem trn_no {L : List PE} {c f : List UInt8} (h : hadP L c f = false) (t : Int) : trn L c f t = t := by
  induction L with
  | nil => rfl
  | cons a L ih =>
    have h1 := hadP_no h a (by simp)
    have h2 : hadP L c f = false := by
      unfold hadP at h ⊢
      rw [List.any_cons, Bool.or_eq_false_iff] at h
      exact h.2
    show (if _ then _ else _) = _
    rw [if_neg h1, ih h2]
theorem addP_k {L : List PE} {c f : List UInt8} (h : hadP L c f = true) (q t : Int) : (addP L c f q t).map PE.k = L.map PE.k ∧ (addP L c f q t).map PE.t = L.map PE.t := by
  induction L with
  | nil => cases h
  | cons a L ih =>
    show (if _ then _ else _ : List PE).map _ = _ ∧ (if _ then _ else _ : List PE).map _ = _
    by_cases h1 : a.c = c ∧ a.f = f
    · rw [if_pos h1]
      exact ⟨rfl, rfl⟩
    · rw [if_neg h1]
      have h2 : hadP L c f = true := by
        unfold hadP at h ⊢
        rw [List.any_cons, Bool.or_eq_true] at h
        rcases h with h | h
        · exact absurd (by simpa using h) h1
        · exact h
      exact ⟨by simp only [List.map_cons, (ih h2).1], by simp only [List.map_cons, (ih h2).2]⟩

/-- How the index's entries hold together. -/
structure OkP (L : List PE) (tn : Int) (K : Nat) : Prop where
  uniq : (L.map PE.k).Nodup
  rise : (L.map PE.t).Pairwise (· < ·)
  le : ∀ e ∈ L, 1 ≤ e.t ∧ e.t ≤ tn
  ok : ∀ e ∈ L, filterL e.f = true ∧ e.f.length ≤ 65535 ∧ e.c.length ≤ 65535 ∧ 0 ≤ e.q ∧ e.q ≤ 2
  n0 : 0 ≤ tn
  few : tn ≤ K
  len : L.length ≤ K
theorem OkP.nil : OkP [] 0 0 := ⟨by simp, by simp, by simp, by simp, Int.le_refl _, Int.le_refl _, Nat.le_refl _⟩
section
variable {L : List PE} {tn : Int} {K : Nat}
theorem OkP.one (h : OkP L tn K) {a b : PE} (ha : a ∈ L) (hb : b ∈ L) (hc : a.c = b.c) (hf : a.f = b.f) : a = b := by
  have hk : a.k = b.k := by simp [PE.k, hc, hf]
  have hu := h.uniq
  clear h
  induction L with
  | nil => cases ha
  | cons x L ih =>
    rw [List.map_cons, List.nodup_cons] at hu
    rcases List.mem_cons.1 ha with e1 | ha1 <;> rcases List.mem_cons.1 hb with e2 | hb1
    · rw [e1, e2]
    · exact absurd (List.mem_map.2 ⟨b, hb1, by rw [← hk, e1]⟩) hu.1
    · exact absurd (List.mem_map.2 ⟨a, ha1, by rw [hk, e2]⟩) hu.1
    · exact ih ha1 hb1 hu.2
theorem OkP.uq (h : OkP L tn K) : uniqE (ses L) := by
  have := List.pairwise_map.1 (List.nodup_iff_pairwise_ne.1 h.uniq)
  unfold uniqE ses
  rw [List.pairwise_map]
  exact this.imp fun {a b} hne x => hne (by unfold PE.k; rw [show a.c = b.c from x.1, show a.f = b.f from x.2])
theorem OkP.okL (h : OkP L tn K) : okE (ses L) := fun e he => by
  obtain ⟨p, hp, rfl⟩ := List.mem_map.1 he
  have := h.ok p hp
  exact ⟨this.1, this.2.2.2⟩
theorem OkP.trnE (h : OkP L tn K) {e : PE} (he : e ∈ L) (t : Int) : trn L e.c e.f t = e.t := by
  have hk : ∃ x ∈ L, x.c = e.c ∧ x.f = e.f ∧ trn L e.c e.f t = x.t := by
    clear h
    induction L with
    | nil => cases he
    | cons a L ih =>
      by_cases h1 : a.c = e.c ∧ a.f = e.f
      · exact ⟨a, by simp, h1.1, h1.2, if_pos h1⟩
      · rcases List.mem_cons.1 he with rfl | he
        · exact absurd ⟨rfl, rfl⟩ h1
        · obtain ⟨x, hx, h2, h3, h4⟩ := ih he
          exact ⟨x, by simp [hx], h2, h3, by rw [← h4]; exact if_neg h1⟩
  obtain ⟨x, hx, h2, h3, h4⟩ := hk
  rw [h4, h.one hx he h2 h3]
theorem OkP.qOfE (h : OkP L tn K) {e : PE} (he : e ∈ L) : qOf L e.c e.f = e.q := by
  have hk : ∃ x ∈ L, x.c = e.c ∧ x.f = e.f ∧ qOf L e.c e.f = x.q := by
    clear h
    induction L with
    | nil => cases he
    | cons a L ih =>
      by_cases h1 : a.c = e.c ∧ a.f = e.f
      · exact ⟨a, by simp, h1.1, h1.2, if_pos h1⟩
      · rcases List.mem_cons.1 he with rfl | he
        · exact absurd ⟨rfl, rfl⟩ h1
        · obtain ⟨x, hx, h2, h3, h4⟩ := ih he
          exact ⟨x, by simp [hx], h2, h3, by rw [← h4]; exact if_neg h1⟩
  obtain ⟨x, hx, h2, h3, h4⟩ := hk
  rw [h4, h.one hx he h2 h3]
theorem addP_mem (h : OkP L tn K) {c f : List UInt8} {q t : Int} {e : PE} (he : e ∈ addP L c f q t) : (e ∈ L ∧ ¬ (e.c = c ∧ e.f = f)) ∨ e = ⟨c, f, q, trn L c f t⟩ := by
  have hu := h.uniq
  clear h
  induction L with
  | nil =>
    simp [addP] at he
    exact Or.inr he
  | cons a L ih =>
    rw [List.map_cons, List.nodup_cons] at hu
    have he' : e ∈ (if a.c = c ∧ a.f = f then ⟨a.c, a.f, q, a.t⟩ :: L else a :: addP L c f q t) := he
    by_cases h1 : a.c = c ∧ a.f = f
    · rw [if_pos h1] at he'
      have et : trn (a :: L) c f t = a.t := if_pos h1
      rcases List.mem_cons.1 he' with rfl | he'
      · exact Or.inr (by rw [et, ← h1.1, ← h1.2])
      · refine Or.inl ⟨by simp [he'], fun x => hu.1 (List.mem_map.2 ⟨e, he', ?_⟩)⟩
        unfold PE.k
        rw [x.1, x.2, h1.1, h1.2]
    · rw [if_neg h1] at he'
      have et : trn (a :: L) c f t = trn L c f t := if_neg h1
      rcases List.mem_cons.1 he' with rfl | he'
      · exact Or.inl ⟨by simp, h1⟩
      · rcases ih he' hu.2 with ⟨h2, h3⟩ | h2
        · exact Or.inl ⟨by simp [h2], h3⟩
        · exact Or.inr (by rw [et]; exact h2)
theorem addP_has (L : List PE) (c f : List UInt8) (q t : Int) : ∃ e ∈ addP L c f q t, e.c = c ∧ e.f = f := by
  induction L with
  | nil => exact ⟨⟨c, f, q, t⟩, by simp [addP], rfl, rfl⟩
  | cons a L ih =>
    by_cases h1 : a.c = c ∧ a.f = f
    · exact ⟨⟨a.c, a.f, q, a.t⟩, by simp [addP, h1], h1⟩
    · obtain ⟨e, he, h2⟩ := ih
      exact ⟨e, by simp [addP, h1, he], h2⟩
theorem addP_old (L : List PE) (c f : List UInt8) (q t : Int) {x : PE} (hx : x ∈ L) : ∃ e ∈ addP L c f q t, e.c = x.c ∧ e.f = x.f := by
  induction L with
  | nil => cases hx
  | cons a L ih =>
    by_cases h1 : a.c = c ∧ a.f = f
    · rcases List.mem_cons.1 hx with rfl | hx
      · exact ⟨⟨x.c, x.f, q, x.t⟩, by simp [addP, h1], rfl, rfl⟩
      · exact ⟨x, by simp [addP, h1, hx], rfl, rfl⟩
    · rcases List.mem_cons.1 hx with rfl | hx
      · exact ⟨x, by simp [addP, h1], rfl, rfl⟩
      · obtain ⟨e, he, h2⟩ := ih hx
        exact ⟨e, by simp [addP, h1, he], h2⟩
theorem hadP_addP (h : OkP L tn K) (c f : List UInt8) (q t : Int) (c' f' : List UInt8) : hadP (addP L c f q t) c' f' = (decide (c' = c ∧ f' = f) || hadP L c' f') := by
  rw [Bool.eq_iff_iff, hadP_iff, Bool.or_eq_true, decide_eq_true_eq, hadP_iff]
  constructor
  · rintro ⟨e, he, rfl, rfl⟩
    rcases addP_mem h he with ⟨h1, _⟩ | rfl
    · exact Or.inr ⟨e, h1, rfl, rfl⟩
    · exact Or.inl ⟨rfl, rfl⟩
  · rintro (⟨rfl, rfl⟩ | ⟨e, he, rfl, rfl⟩)
    · exact addP_has _ _ _ _ _
    · exact addP_old _ _ _ _ _ he
theorem OkP.again (h : OkP L tn K) {c f : List UInt8} {q t : Int} (hh : hadP L c f = true) (h0 : 0 ≤ q) (h2 : q ≤ 2) : OkP (addP L c f q t) tn (K + 1) := by
  obtain ⟨x, hx, rfl, rfl⟩ := (hadP_iff L c f).1 hh
  have et := h.trnE hx t
  have hl : (addP L x.c x.f q t).length = L.length := by
    have := congrArg List.length (addP_k hh q t).1
    simpa using this
  exact ⟨by rw [(addP_k hh q t).1]; exact h.uniq, by rw [(addP_k hh q t).2]; exact h.rise, fun e he => by
      rcases addP_mem h he with ⟨h1, _⟩ | rfl
      · exact h.le e h1
      · show 1 ≤ trn L x.c x.f t ∧ trn L x.c x.f t ≤ tn
        rw [et]; exact h.le x hx, fun e he => by
      rcases addP_mem h he with ⟨h1, _⟩ | rfl
      · exact h.ok e h1
      · exact ⟨(h.ok x hx).1, (h.ok x hx).2.1, (h.ok x hx).2.2.1, h0, h2⟩, h.n0, by have := h.few; omega, by rw [hl]; have := h.len; omega⟩
theorem OkP.new (h : OkP L tn K) {c f : List UInt8} {q : Int} (hh : hadP L c f = false) (h0 : 0 ≤ q) (h2 : q ≤ 2) (hf : filterL f = true) (hf' : f.length ≤ 65535) (hc : c.length ≤ 65535) : OkP (addP L c f q (tn + 1)) (tn + 1) (K + 1) := by
  rw [addP_no hh]
  have hno := hadP_no hh
  refine ⟨?_, ?_, fun e he => ?_, fun e he => ?_, by have := h.n0; omega, by have := h.few; omega, by rw [List.length_append]; have := h.len; simp; omega⟩
  · rw [List.map_append, List.nodup_append]
    refine ⟨h.uniq, by simp, fun a ha b hb => ?_⟩
    obtain ⟨e, he, rfl⟩ := List.mem_map.1 ha
    simp at hb
    subst hb
    intro x
    injection x with x1 x2
    exact hno e he ⟨x1, x2⟩
  · rw [List.map_append, List.pairwise_append]
    refine ⟨h.rise, by simp, fun a ha b hb => ?_⟩
    obtain ⟨e, he, rfl⟩ := List.mem_map.1 ha
    simp at hb
    subst hb
    have := (h.le e he).2
    omega
  · rcases List.mem_append.1 he with he | he
    · have := h.le e he
      omega
    · simp at he
      subst he
      have := h.n0
      simp
      omega
  · rcases List.mem_append.1 he with he | he
    · exact h.ok e he
    · simp at he
      subst he
      exact ⟨hf, hf', hc, h0, h2⟩
theorem OkP.drop (h : OkP L tn K) (c f : List UInt8) : OkP (dropP L c f) tn K := by
  have hs : (dropP L c f).Sublist L := List.filter_sublist
  exact ⟨h.uniq.sublist (hs.map _), h.rise.sublist (hs.map _), fun e he => h.le e (hs.subset he), fun e he => h.ok e (hs.subset he), h.n0, h.few, Nat.le_trans hs.length_le h.len⟩
theorem OkP.mono (h : OkP L tn K) {K' : Nat} (hk : K ≤ K') : OkP L tn K' := ⟨h.uniq, h.rise, h.le, h.ok, h.n0, by have := h.few; omega, Nat.le_trans h.len hk⟩
theorem hadP_dropP (L : List PE) (c f c' f' : List UInt8) (hf : f ≠ []) : hadP (dropP L c f) c' f' = (hadP L c' f' && !decide (c' = c ∧ f' = f)) := by
  rw [Bool.eq_iff_iff, hadP_iff, Bool.and_eq_true, hadP_iff]
  constructor
  · rintro ⟨e, he, rfl, rfl⟩
    obtain ⟨h1, h2⟩ := List.mem_filter.1 he
    refine ⟨⟨e, h1, rfl, rfl⟩, ?_⟩
    have : keepE c f e.se = true := h2
    unfold keepE PE.se at this
    simp [hf] at this
    rw [Bool.not_eq_true', decide_eq_false_iff_not]
    intro x
    rcases this with h | h
    · exact h x.1
    · exact h x.2
  · rintro ⟨⟨e, he, rfl, rfl⟩, h2⟩
    refine ⟨e, List.mem_filter.2 ⟨he, ?_⟩, rfl, rfl⟩
    unfold keepE PE.se
    rw [Bool.not_eq_true', decide_eq_false_iff_not] at h2
    simp [hf]
    by_cases hc : e.c = c
    · exact Or.inr (fun x => h2 ⟨hc, x⟩)
    · exact Or.inl hc
theorem hadP_gone (L : List PE) (c c' f' : List UInt8) : hadP (dropP L c []) c' f' = (hadP L c' f' && !decide (c' = c)) := by
  rw [Bool.eq_iff_iff, hadP_iff, Bool.and_eq_true, hadP_iff]
  constructor
  · rintro ⟨e, he, rfl, rfl⟩
    obtain ⟨h1, h2⟩ := List.mem_filter.1 he
    have : keepE c [] e.se = true := h2
    unfold keepE PE.se at this
    exact ⟨⟨e, h1, rfl, rfl⟩, by cases hd : decide (e.c = c) <;> simp_all⟩
  · rintro ⟨⟨e, he, rfl, rfl⟩, h2⟩
    refine ⟨e, List.mem_filter.2 ⟨he, ?_⟩, rfl, rfl⟩
    unfold keepE PE.se
    cases hd : decide (e.c = c) <;> simp_all

/-- What a client has. -/
def fsOf (L : List PE) (c : List UInt8) : List (List UInt8) := (L.filter fun e => decide (e.c = c)).map PE.f
theorem fsOf_mem (L : List PE) (c f : List UInt8) : f ∈ fsOf L c ↔ hadP L c f = true := by
  rw [hadP_iff]
  unfold fsOf
  simp only [List.mem_map, List.mem_filter, decide_eq_true_eq]
  constructor
  · rintro ⟨e, ⟨he, hc⟩, hf⟩
    exact ⟨e, he, hc, hf⟩
  · rintro ⟨e, he, hc, hf⟩
    exact ⟨e, ⟨he, hc⟩, hf⟩
theorem OkP.fsOf_nodup (h : OkP L tn K) (c : List UInt8) : (fsOf L c).Nodup := by
  unfold fsOf
  rw [List.nodup_iff_pairwise_ne, List.pairwise_map]
  have := List.pairwise_map.1 (List.nodup_iff_pairwise_ne.1 h.uniq)
  refine (this.sublist List.filter_sublist).imp_of_mem fun {a b} ha hb hne hf => hne ?_
  have h1 := (List.mem_filter.1 ha).2
  have h2 := (List.mem_filter.1 hb).2
  simp at h1 h2
  unfold PE.k
  rw [h1, h2, hf]
theorem OkP.fsOf_rise (h : OkP L tn K) (c : List UInt8) : (fsOf L c).Pairwise fun a b => trn L c a 0 < trn L c b 0 := by
  unfold fsOf
  rw [List.pairwise_map]
  have := List.pairwise_map.1 h.rise
  refine (this.sublist (List.filter_sublist (p := fun e => decide (e.c = c)))).imp_of_mem fun {a b} ha hb hlt => ?_
  obtain ⟨h1, h1'⟩ := List.mem_filter.1 ha
  obtain ⟨h2, h2'⟩ := List.mem_filter.1 hb
  simp at h1' h2'
  rw [← h1', h.trnE h1 0, h1', ← h2', h.trnE h2 0]
  exact hlt
theorem OkP.ofL (h : OkP L tn K) (c : List UInt8) : ofE (ses L) c = (fsOf L c).map fun f => (f, qOf L c f) := by
  unfold ofE ses fsOf
  rw [List.filter_map, List.map_map, List.map_map]
  refine List.map_congr_left fun e he => ?_
  obtain ⟨h1, h2⟩ := List.mem_filter.1 he
  have h2' : e.c = c := of_decide_eq_true h2
  show (e.f, e.q) = (e.f, qOf L c e.f)
  rw [← h2', h.qOfE h1]
/-- Rows of the same that rise are the same. -/
theorem rise_eq {β : Type} (r : β → Int) {l m : List β} (hp : l.Perm m) (hl : l.Pairwise fun a b => ¬ r b < r a) (hm : m.Pairwise fun a b => r a < r b) : l = m := by
  have one : ∀ {l : List β}, l.Pairwise (fun a b => r a < r b) → ∀ a ∈ l, ∀ b ∈ l, r a = r b → a = b := by
    intro l
    induction l with
    | nil => intro _ a ha; cases ha
    | cons x l ih =>
      intro hh a ha b hb hr
      have hh2 := List.pairwise_cons.1 hh
      rcases List.mem_cons.1 ha with e1 | ha1 <;> rcases List.mem_cons.1 hb with e2 | hb1
      · rw [e1, e2]
      · have := hh2.1 b hb1; rw [← e1] at this; omega
      · have := hh2.1 a ha1; rw [← e2] at this; omega
      · exact ih hh2.2 a ha1 b hb1 hr
  refine List.Perm.eq_of_pairwise (le := fun a b => ¬ r b < r a) (fun a b ha hb h1 h2 => ?_) hl (hm.imp fun {a b} h => by omega) hp
  exact one hm a (hp.mem_iff.1 ha) b hb (by omega)
/-- .. by texts. -/
theorem text_eq {l m : List (List UInt8 × Int)} (hp : l.Perm m) (hl : l.Pairwise fun a b => Op.bytesLess b.1 a.1 = false) (hm : (m.map Prod.fst).Nodup) : Srt l := by
  have hn : (l.map Prod.fst).Nodup := (hp.map _).nodup_iff.2 hm
  have hn' := List.pairwise_map.1 (List.nodup_iff_pairwise_ne.1 hn)
  unfold Srt
  refine (hl.and hn').imp fun {a b} h => ?_
  cases k : Op.bytesLess a.1 b.1 with
  | true => rfl
  | false => exact absurd (bl_tri k h.1) h.2

/-- The greatest, filter by filter, in whatever order. -/
def most1 (L : List PE) (c n : List UInt8) (b : Int) (f : List UInt8) : Int := if matchL f n = true then max b (qOf L c f) else b
def mostL (L : List PE) (c n : List UInt8) (l : List (List UInt8)) : Int := l.foldl (most1 L c n) (-1)
theorem mostL_snoc (L : List PE) (c n : List UInt8) (l : List (List UInt8)) (f : List UInt8) : mostL L c n (l ++ [f]) = most1 L c n (mostL L c n l) f := by
  unfold mostL
  rw [List.foldl_append]
  rfl
theorem mostL_perm (L : List PE) (c n : List UInt8) {l m : List (List UInt8)} (h : l.Perm m) : mostL L c n l = mostL L c n m := by
  unfold mostL
  have key : ∀ {l m : List (List UInt8)}, l.Perm m → ∀ b, l.foldl (most1 L c n) b = m.foldl (most1 L c n) b := by
    intro l m h
    induction h with
    | nil => intro b; rfl
    | cons x _ ih => intro b; exact ih _
    | swap x y l =>
      intro b
      simp only [List.foldl_cons]
      congr 1
      unfold most1
      split <;> split <;> omega
    | trans _ _ ih1 ih2 => intro b; rw [ih1, ih2]
  exact key h (-1)
theorem mostL_ge (L : List PE) (c n : List UInt8) (l : List (List UInt8)) : -1 ≤ mostL L c n l := by
  unfold mostL
  have key : ∀ (l : List (List UInt8)) (b : Int), b ≤ l.foldl (most1 L c n) b := by
    intro l
    induction l with
    | nil => intro b; exact Int.le_refl _
    | cons x l ih =>
      intro b
      have h1 := ih (most1 L c n b x)
      have h2 : b ≤ most1 L c n b x := by unfold most1; split <;> omega
      simp only [List.foldl_cons]
      omega
  exact key l (-1)
theorem mostL_le (h : OkP L tn K) (c n : List UInt8) (l : List (List UInt8)) (hl : ∀ f ∈ l, hadP L c f = true) : mostL L c n l ≤ 2 := by
  unfold mostL
  have key : ∀ (l : List (List UInt8)) (b : Int), (∀ f ∈ l, hadP L c f = true) → b ≤ 2 → l.foldl (most1 L c n) b ≤ 2 := by
    intro l
    induction l with
    | nil => intro b _ hb; exact hb
    | cons x l ih =>
      intro b hl hb
      refine ih _ (fun f hf => hl f (by simp [hf])) ?_
      obtain ⟨e, he, rfl, rfl⟩ := (hadP_iff _ _ _).1 (hl x (by simp))
      unfold most1
      rw [h.qOfE he]
      have := (h.ok e he).2.2.2.2
      split <;> omega
  exact key l (-1) hl (by omega)
theorem OkP.most (h : OkP L tn K) (c n : List UInt8) {l : List (List UInt8)} (hp : l.Perm (fsOf L c)) : mostL L c n l = (bestQ (ses L) n c).getD (-1) := by
  rw [mostL_perm L c n hp, ← bestO_of (ses L) h.okL n c, h.ofL c]
  unfold mostL bestO
  rw [List.foldl_map]
  rfl
theorem bestQ_ge (h : OkP L tn K) {n c : List UInt8} {p : Int} (hp : bestQ (ses L) n c = some p) : 0 ≤ p := by
  have hk : ∀ (es : List SE) (o : Option Int), (∀ e ∈ es, 0 ≤ e.q) → (∀ p, o = some p → 0 ≤ p) → ∀ p, es.foldl (bestS n c) o = some p → 0 ≤ p := by
    intro es
    induction es with
    | nil => intro o _ ho p hp; exact ho p hp
    | cons e es ih =>
      intro o he ho p hp
      simp only [List.foldl_cons] at hp
      refine ih _ (fun x hx => he x (by simp [hx])) (fun p1 hp1 => ?_) p hp
      have hq := he e (by simp)
      unfold bestS at hp1
      split at hp1
      · cases o with
        | none => simp [gq] at hp1; omega
        | some p0 => have := ho p0 rfl; simp [gq] at hp1; omega
      · exact ho p1 hp1
  exact hk (ses L) none (fun e he => (h.okL e he).2.1) (fun p hp => by cases hp) p hp
theorem bestQ_no {n c : List UInt8} (es : List SE) (h : ∀ e ∈ es, e.c ≠ c) : bestQ es n c = none := by
  have hk : ∀ (es : List SE), (∀ e ∈ es, e.c ≠ c) → es.foldl (bestS n c) none = none := by
    intro es
    induction es with
    | nil => intro _; rfl
    | cons e es ih =>
      intro he
      simp only [List.foldl_cons]
      rw [show bestS n c none e = none from if_neg (fun x => he e (by simp) x.2)]
      exact ih fun x hx => he x (by simp [hx])
  exact hk es h
/-- Who is found, client by client. -/
def whoL (es : List SE) (n : List UInt8) (cs : List (List UInt8)) : List (List UInt8 × Int) := cs.filterMap fun c => (bestQ es n c).map fun q => (c, q)
theorem whoL_snoc (es : List SE) (n : List UInt8) (cs : List (List UInt8)) (c : List UInt8) : whoL es n (cs ++ [c]) = whoL es n cs ++ match bestQ es n c with
    | none => []
    | some q => [(c, q)] := by
  unfold whoL
  rw [List.filterMap_append]
  congr 1
  cases hb : bestQ es n c <;> simp [hb]
theorem whoL_len (es : List SE) (n : List UInt8) (cs : List (List UInt8)) : (whoL es n cs).length ≤ cs.length := List.length_filterMap_le _ _
theorem whoL_mem (es : List SE) (n : List UInt8) (cs : List (List UInt8)) (c : List UInt8) (q : Int) : (c, q) ∈ whoL es n cs ↔ c ∈ cs ∧ bestQ es n c = some q := by
  unfold whoL
  rw [List.mem_filterMap]
  constructor
  · rintro ⟨d, hd, h⟩
    obtain ⟨p, hp, h2⟩ := Option.map_eq_some_iff.1 h
    injection h2 with h3 h4
    subst h3 h4
    exact ⟨hd, hp⟩
  · rintro ⟨h1, h2⟩
    exact ⟨c, h1, by rw [h2]; rfl⟩
theorem whoL_nodup (es : List SE) (n : List UInt8) (cs : List (List UInt8)) (h : cs.Nodup) : ((whoL es n cs).map Prod.fst).Nodup := by
  induction cs with
  | nil => simp [whoL]
  | cons c cs ih =>
    rw [List.nodup_cons] at h
    have ih' := ih h.2
    unfold whoL at ih' ⊢
    cases hb : bestQ es n c with
    | none =>
      rw [List.filterMap_cons_none (by rw [hb]; rfl)]
      exact ih'
    | some q =>
      rw [List.filterMap_cons_some (b := (c, q)) (by rw [hb]; rfl), List.map_cons, List.nodup_cons]
      refine ⟨fun hm => ?_, ih'⟩
      obtain ⟨⟨d, p⟩, hd, rfl⟩ := List.mem_map.1 hm
      exact h.1 ((whoL_mem es n cs d p).1 hd).1
theorem lkp_mem {l : List (List UInt8 × Int)} (hn : (l.map Prod.fst).Nodup) {c : List UInt8} {q : Int} (h : (c, q) ∈ l) : lkp l c = some q := by
  induction l with
  | nil => cases h
  | cons a l ih =>
    rw [List.map_cons, List.nodup_cons] at hn
    show (if _ then _ else _) = _
    rcases List.mem_cons.1 h with rfl | h
    · rw [if_pos rfl]
    · rw [if_neg, ih hn.2 h]
      intro x
      exact hn.1 (List.mem_map.2 ⟨(c, q), h, x.symm⟩)
/-- Sorted by texts, who was found client by client is what is found. -/
theorem who_find (es : List SE) (n : List UInt8) (cs : List (List UInt8)) (hn : cs.Nodup) (hc : ∀ e ∈ es, e.c ∈ cs) {l : List (List UInt8 × Int)} (hp : l.Perm (whoL es n cs)) (hs : l.Pairwise fun a b => Op.bytesLess b.1 a.1 = false) : l = findE es n := by
  have hnd := whoL_nodup es n cs hn
  have hnl : (l.map Prod.fst).Nodup := (hp.map _).nodup_iff.2 hnd
  refine srt_ext (text_eq hp hs hnd) (findE_srt es n) fun d => ?_
  rw [findE_lkp]
  cases hb : bestQ es n d with
  | some q =>
    have hd : d ∈ cs := by
      by_cases hx : ∃ e ∈ es, e.c = d
      · obtain ⟨e, he, rfl⟩ := hx
        exact hc e he
      · rw [bestQ_no es fun e he x => hx ⟨e, he, x⟩] at hb
        cases hb
    exact lkp_mem hnl (hp.mem_iff.2 ((whoL_mem es n cs d q).2 ⟨hd, hb⟩))
  | none =>
    refine lkp_none fun s hs2 x => ?_
    subst x
    have := ((whoL_mem es n cs s.1 s.2).1 (hp.mem_iff.1 hs2)).2
    rw [hb] at this
    cases this
end

end Go.Proofs.YtfjafpbmgbnllaaGreat
