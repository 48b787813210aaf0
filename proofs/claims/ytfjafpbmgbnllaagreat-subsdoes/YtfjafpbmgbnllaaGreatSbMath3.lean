/-
  What is proved here: the mathematics of layer 13's laws: calls that add, one after the other; what is added again, dropped, found by what Of tells. No condition.
-/
import Derived.Test.YtfjafpbmgbnllaaGreatSbMath2
namespace Go.Proofs.YtfjafpbmgbnllaaGreat
set_option linter.unusedVariables false
set_option linter.unusedSimpArgs false
open Go.RowKit

/-- No two entries of one client with one filter. -/
def uniqE (es : List SE) : Prop := es.Pairwise fun a b => ¬ (a.c = b.c ∧ a.f = b.f)
theorem atE_iff (c f : List UInt8) (e : SE) : atE c f e = true ↔ e.c = c ∧ e.f = f := by simp [atE]
theorem hadE_iff (es : List SE) (c f : List UInt8) : hadE es c f = true ↔ ∃ e ∈ es, e.c = c ∧ e.f = f := by
  unfold hadE idxE
  rw [decide_eq_true_iff, List.findIdx_lt_length]
  simp [atE]
theorem hadE_no {es : List SE} {c f : List UInt8} (h : ∀ e ∈ es, ¬ (e.c = c ∧ e.f = f)) : hadE es c f = false := by
  cases k : hadE es c f with
  | false => rfl
  | true =>
    obtain ⟨e, h1, h2⟩ := (hadE_iff es c f).1 k
    exact absurd h2 (h e h1)
theorem addE_new {es : List SE} {c f : List UInt8} (h : ∀ e ∈ es, ¬ (e.c = c ∧ e.f = f)) (q : Int) : addE es c f q = es ++ [⟨c, f, q⟩] := by
  have := hadE_no h
  unfold hadE at this
  unfold addE
  rw [if_neg (by simpa using this)]
theorem idxE_snoc {es : List SE} {c f : List UInt8} (h : ∀ e ∈ es, ¬ (e.c = c ∧ e.f = f)) (q : Int) : idxE (es ++ [⟨c, f, q⟩]) c f = es.length :=
  idxE_at _ c f es.length ⟨c, f, q⟩ (by simp) rfl rfl fun j e' hj he => by
    rw [List.getElem?_append_left hj] at he
    have := h e' (List.mem_of_getElem? he)
    cases k : atE c f e' with
    | false => rfl
    | true => exact absurd ((atE_iff c f e').1 k) this
theorem hadE_again {es : List SE} {c f : List UInt8} (h : ∀ e ∈ es, ¬ (e.c = c ∧ e.f = f)) (q : Int) : hadE (es ++ [⟨c, f, q⟩]) c f = true := by
  unfold hadE
  rw [idxE_snoc h]
  simp
theorem addE_again {es : List SE} {c f : List UInt8} (h : ∀ e ∈ es, ¬ (e.c = c ∧ e.f = f)) (a b : Int) : addE (es ++ [⟨c, f, a⟩]) c f b = es ++ [⟨c, f, b⟩] := by
  unfold addE
  rw [idxE_snoc h, if_pos (by simp), List.set_append_right _ _ (Nat.le_refl _)]
  simp
theorem ofE_snoc (es : List SE) (c f : List UInt8) (q : Int) : ofE (es ++ [⟨c, f, q⟩]) c = ofE es c ++ [(f, q)] := by simp [ofE]
theorem dropE_snoc {es : List SE} {c f : List UInt8} (h : ∀ e ∈ es, ¬ (e.c = c ∧ e.f = f)) (hf : f ≠ []) (q : Int) : dropE (es ++ [⟨c, f, q⟩]) c f = es := by
  unfold dropE
  rw [List.filter_append]
  have h1 : es.filter (keepE c f) = es := List.filter_eq_self.2 fun e he => by
    have := h e he
    unfold keepE
    by_cases hc : e.c = c
    · have hef : e.f ≠ f := fun x => this ⟨hc, x⟩
      simp [hc, hf, hef]
    · simp [hc]
  rw [h1]
  simp [keepE, hf]
/-- A call that adds, if it may be. -/
def addV (es : List SE) (c f : List UInt8) (q : Int) : List SE := if filterL f = true ∧ 0 ≤ q ∧ q ≤ 2 then addE es c f q else es
theorem addE_mem {es : List SE} {c f : List UInt8} {q : Int} {e : SE} (h : e ∈ addE es c f q) : e ∈ es ∨ e = ⟨c, f, q⟩ := by
  unfold addE at h
  split at h
  · exact List.mem_or_eq_of_mem_set h
  · rcases List.mem_append.1 h with h | h
    · exact Or.inl h
    · simp at h; exact Or.inr h
theorem addV_mem {es : List SE} {c f : List UInt8} {q : Int} {e : SE} (h : e ∈ addV es c f q) : e ∈ es ∨ e = ⟨c, f, q⟩ := by
  unfold addV at h
  split at h
  · exact addE_mem h
  · exact Or.inl h
/-- What holds of each entry: its filter is one, its quality may be. -/
def okE (es : List SE) : Prop := ∀ e ∈ es, filterL e.f = true ∧ 0 ≤ e.q ∧ e.q ≤ 2
theorem addV_ok {es : List SE} (h : okE es) (c f : List UInt8) (q : Int) : okE (addV es c f q) := fun e he => by
  unfold addV at he
  split at he
  · rename_i hq
    rcases addE_mem he with he | rfl
    · exact h e he
    · exact hq
  · exact h e he
theorem dropE_ok {es : List SE} (h : okE es) (c f : List UInt8) : okE (dropE es c f) := fun e he => h e (List.mem_filter.1 he).1
theorem addE_len (es : List SE) (c f : List UInt8) (q : Int) : (addE es c f q).length ≤ es.length + 1 := by
  unfold addE
  split <;> simp
theorem addV_len (es : List SE) (c f : List UInt8) (q : Int) : (addV es c f q).length ≤ es.length + 1 := by
  unfold addV
  split
  · exact addE_len _ _ _ _
  · omega
theorem addE_uniq {es : List SE} (h : uniqE es) (c f : List UInt8) (q : Int) : uniqE (addE es c f q) := by
  by_cases hh : ∃ e ∈ es, e.c = c ∧ e.f = f
  · have hk := (hadE_iff es c f).2 hh
    unfold hadE at hk
    have hl := of_decide_eq_true hk
    unfold addE
    rw [if_pos hl]
    unfold uniqE at h ⊢
    have he : atE c f (es[idxE es c f]'hl) = true := List.findIdx_getElem
    obtain ⟨e1, e2⟩ := (atE_iff _ _ _).1 he
    rw [List.pairwise_iff_getElem] at h ⊢
    intro i j hi hj hij
    rw [List.length_set] at hi hj
    have hget : ∀ k (hk : k < es.length), ((es.set (idxE es c f) ⟨c, f, q⟩)[k]'(by rw [List.length_set]; exact hk)).c = es[k].c ∧ ((es.set (idxE es c f) ⟨c, f, q⟩)[k]'(by rw [List.length_set]; exact hk)).f = es[k].f := by
      intro k hk
      rw [List.getElem_set]
      split
      · rename_i hik
        subst hik
        exact ⟨e1.symm, e2.symm⟩
      · exact ⟨rfl, rfl⟩
    rw [(hget i hi).1, (hget i hi).2, (hget j hj).1, (hget j hj).2]
    exact h i j hi hj hij
  · rw [addE_new (fun e he x => hh ⟨e, he, x⟩)]
    unfold uniqE at h ⊢
    rw [List.pairwise_append]
    refine ⟨h, by simp, fun a ha b hb => ?_⟩
    simp at hb
    subst hb
    exact fun x => hh ⟨a, ha, x⟩
theorem dropE_uniq {es : List SE} (h : uniqE es) (c f : List UInt8) : uniqE (dropE es c f) := h.filter _

/-- The greatest quality by what Of tells. -/
def bestO (n : List UInt8) (l : List (List UInt8 × Int)) : Int := l.foldl (fun b s => if matchL s.1 n = true then max b s.2 else b) (-1)
theorem bestO_of (es : List SE) (h : okE es) (n d : List UInt8) : bestO n (ofE es d) = (bestQ es n d).getD (-1) := by
  have key : ∀ (es : List SE) (o : Option Int), okE es → (∀ p, o = some p → 0 ≤ p) → (ofE es d).foldl (fun b s => if matchL s.1 n = true then max b s.2 else b) (o.getD (-1)) = (es.foldl (bestS n d) o).getD (-1) := by
    intro es
    induction es with
    | nil => intro o _ _; rfl
    | cons e es ih =>
      intro o hok ho
      have hq := hok e (by simp)
      have ihe := ih (bestS n d o e) (fun x hx => hok x (by simp [hx])) (fun p hp => by
        unfold bestS at hp
        split at hp
        · cases o with
          | none => simp [gq] at hp; omega
          | some p0 => have := ho p0 rfl; simp [gq] at hp; omega
        · exact ho p hp)
      simp only [List.foldl_cons]
      rw [← ihe]
      unfold ofE
      by_cases hc : e.c = d
      · rw [List.filter_cons_of_pos (by simp [hc])]
        simp only [List.map_cons, List.foldl_cons]
        congr 1
        unfold bestS
        by_cases hm : matchL e.f n = true
        · rw [if_pos hm, if_pos ⟨hm, hc⟩]
          cases o with
          | none => simp only [gq, Option.getD]; omega
          | some p0 => simp only [gq, Option.getD]
        · rw [if_neg hm, if_neg (fun x => hm x.1)]
      · rw [List.filter_cons_of_neg (by simp [hc])]
        unfold bestS
        rw [if_neg (fun x => hc x.2)]
  exact key es none h (fun p hp => by cases hp)
/-- What is found for a client, by looking through the whole row. -/
def foundO (d : List UInt8) (l : List (List UInt8 × Int)) : Int := l.foldl (fun b s => if s.1 = d then s.2 else b) (-1)
theorem foundO_of (d : List UInt8) (l : List (List UInt8 × Int)) (h : Srt l) : foundO d l = (lkp l d).getD (-1) := by
  have none_ : ∀ (l : List (List UInt8 × Int)) (b : Int), (∀ s ∈ l, s.1 ≠ d) → l.foldl (fun b s => if s.1 = d then s.2 else b) b = b := by
    intro l
    induction l with
    | nil => intro b _; rfl
    | cons a l ih =>
      intro b hb
      simp only [List.foldl_cons]
      rw [if_neg (hb a (by simp))]
      exact ih b fun s hs => hb s (by simp [hs])
  have key : ∀ (l : List (List UInt8 × Int)) (b : Int), Srt l → l.foldl (fun b s => if s.1 = d then s.2 else b) b = (lkp l d).getD b := by
    intro l
    induction l with
    | nil => intro b _; rfl
    | cons a l ih =>
      intro b hs
      simp only [List.foldl_cons]
      show _ = (if a.1 = d then some a.2 else lkp l d).getD b
      by_cases ha : a.1 = d
      · rw [if_pos ha, if_pos ha, none_ l a.2 (fun s h1 h2 => srt_head hs s h1 (by rw [h2, ha]))]
        rfl
      · rw [if_neg ha, if_neg ha]
        exact ih b (srt_tail hs)
  exact key l (-1) h
/-- Who is found is who has a filter that takes the name, with the greatest quality of those. -/
theorem found_best (es : List SE) (h : okE es) (n d : List UInt8) : foundO d (findE es n) = bestO n (ofE es d) := by
  rw [foundO_of _ _ (findE_srt es n), findE_lkp, bestO_of es h]

/-- Calls that add, one after the other. -/
def validE (e : SE) : Bool := decide (filterL e.f = true ∧ 0 ≤ e.q ∧ e.q ≤ 2)
def addAll (ts : List SE) : List SE := ts.foldl (fun es e => addV es e.c e.f e.q) []
theorem addAll_snoc (ts : List SE) (e : SE) : addAll (ts ++ [e]) = addV (addAll ts) e.c e.f e.q := by
  unfold addAll
  rw [List.foldl_append]
  rfl
theorem addAll_uniq {ts : List SE} (h : uniqE ts) : addAll ts = ts.filter validE := by
  have key : ∀ (ts acc : List SE), (∀ a ∈ acc, ∀ b ∈ ts, ¬ (a.c = b.c ∧ a.f = b.f)) → uniqE ts → ts.foldl (fun es e => addV es e.c e.f e.q) acc = acc ++ ts.filter validE := by
    intro ts
    induction ts with
    | nil => intro acc _ _; simp
    | cons e ts ih =>
      intro acc ha hu
      have hp := List.pairwise_cons.1 hu
      simp only [List.foldl_cons]
      by_cases hv : filterL e.f = true ∧ 0 ≤ e.q ∧ e.q ≤ 2
      · have e1 : addV acc e.c e.f e.q = acc ++ [e] := by
          unfold addV
          rw [if_pos hv]
          exact addE_new (fun a h1 => ha a h1 e (by simp)) e.q
        rw [e1, List.filter_cons_of_pos (by simp [validE, hv]), ih (acc ++ [e]) (fun a h1 b h2 => ?_) hp.2]
        · simp
        · rcases List.mem_append.1 h1 with h1 | h1
          · exact ha a h1 b (by simp [h2])
          · simp at h1
            subst h1
            exact hp.1 b h2
      · have e1 : addV acc e.c e.f e.q = acc := by
          unfold addV
          rw [if_neg hv]
        rw [e1, List.filter_cons_of_neg (by simp [validE]; intro h1 h2; exact Int.not_le.1 fun h3 => hv ⟨h1, h2, h3⟩), ih acc (fun a h1 b h2 => ha a h1 b (by simp [h2])) hp.2]
  rw [addAll, key ts [] (by simp) h]
  rfl
/-- In whatever order they are added, the same is found. -/
theorem addAll_turned {ts : List SE} (h : uniqE ts) (by_ : Nat) (n : List UInt8) : findE (addAll ts) n = findE (addAll (ts.drop by_ ++ ts.take by_)) n := by
  have hperm : (ts.drop by_ ++ ts.take by_).Perm ts := by
    have := List.perm_append_comm (l₁ := ts.drop by_) (l₂ := ts.take by_)
    rwa [List.take_append_drop] at this
  have hu : uniqE (ts.drop by_ ++ ts.take by_) := by
    unfold uniqE at h ⊢
    exact (hperm.pairwise_iff (fun {a b} h1 x => h1 ⟨x.1.symm, x.2.symm⟩)).2 h
  rw [addAll_uniq h, addAll_uniq hu]
  exact findE_perm (hperm.symm.filter _) n

end Go.Proofs.YtfjafpbmgbnllaaGreat
