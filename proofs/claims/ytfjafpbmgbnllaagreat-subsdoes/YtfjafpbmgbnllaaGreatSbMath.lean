/-
  What is proved here: the document's index of layer 13 as a list of entries: what is added, dropped, found. No condition.
-/
import Derived.Test.YtfjafpbmgbnllaaGreatTpMath
namespace Go.Proofs.YtfjafpbmgbnllaaGreat
set_option linter.unusedVariables false
set_option linter.unusedSimpArgs false
open Go.RowKit

/-- A client, a filter, a quality. -/
structure SE where
  c : List UInt8
  f : List UInt8
  q : Int
deriving DecidableEq
def SE.vs (e : SE) : List Value := [.string (str e.c), .string (str e.f), .int .i64 e.q]
def seVs (l : List SE) : List Value := l.flatMap SE.vs
/-- Rows of a text with a number. -/
def twOne (s : List UInt8 × Int) : List Value := [.string (str s.1), .int .i64 s.2]
def twVs (l : List (List UInt8 × Int)) : List Value := l.flatMap twOne
theorem seVs_len (l : List SE) : (seVs l).length = l.length * 3 := by
  induction l with
  | nil => rfl
  | cons a l ih => simp only [seVs, List.flatMap_cons, List.length_append, List.length_cons] at ih ⊢; rw [ih]; simp [SE.vs]; omega
theorem twVs_len (l : List (List UInt8 × Int)) : (twVs l).length = l.length * 2 := by
  induction l with
  | nil => rfl
  | cons a l ih => simp only [twVs, List.flatMap_cons, List.length_append, List.length_cons] at ih ⊢; rw [ih]; simp [twOne]; omega
theorem seVs_app (a b : List SE) : seVs (a ++ b) = seVs a ++ seVs b := List.flatMap_append
theorem twVs_app (a b : List (List UInt8 × Int)) : twVs (a ++ b) = twVs a ++ twVs b := List.flatMap_append
theorem seVs_get : ∀ (l : List SE) (i j : Nat) (h : i < l.length), j < 3 → (seVs l)[i * 3 + j]? = (l[i]).vs[j]?
  | a :: l, 0, j, _, hj => by
    show (a.vs ++ seVs l)[0 * 3 + j]? = _
    rw [List.getElem?_append_left (by simp [SE.vs]; omega)]
    simp
  | a :: l, i + 1, j, h, hj => by
    show (a.vs ++ seVs l)[(i + 1) * 3 + j]? = _
    rw [List.getElem?_append_right (by simp [SE.vs]; omega)]
    have := seVs_get l i j (by simpa using h) hj
    rw [show (i + 1) * 3 + j - a.vs.length = i * 3 + j by simp [SE.vs]; omega, this]
    rfl
theorem twVs_get : ∀ (l : List (List UInt8 × Int)) (i j : Nat) (h : i < l.length), j < 2 → (twVs l)[i * 2 + j]? = (twOne l[i])[j]?
  | a :: l, 0, j, _, hj => by
    show (twOne a ++ twVs l)[0 * 2 + j]? = _
    rw [List.getElem?_append_left (by simp [twOne]; omega)]
    simp
  | a :: l, i + 1, j, h, hj => by
    show (twOne a ++ twVs l)[(i + 1) * 2 + j]? = _
    rw [List.getElem?_append_right (by simp [twOne]; omega)]
    have := twVs_get l i j (by simpa using h) hj
    rw [show (i + 1) * 2 + j - (twOne a).length = i * 2 + j by simp [twOne]; omega, this]
    rfl
theorem seVs_one (l : List SE) : ∀ u ∈ seVs l, u.oneCell' = true := by
  intro u hu
  simp only [seVs, List.mem_flatMap] at hu
  obtain ⟨r, _, hr⟩ := hu
  simp [SE.vs] at hr
  rcases hr with rfl | rfl | rfl <;> rfl
theorem twVs_one (l : List (List UInt8 × Int)) : ∀ u ∈ twVs l, u.oneCell' = true := by
  intro u hu
  simp only [twVs, List.mem_flatMap] at hu
  obtain ⟨r, _, hr⟩ := hu
  simp [twOne] at hr
  rcases hr with rfl | rfl <;> rfl
theorem seVs_set : ∀ (l : List SE) (i : Nat) (c f : List UInt8) (q q' : Int), l[i]? = some ⟨c, f, q⟩ → (seVs l).set (i * 3 + 2) (.int .i64 q') = seVs (l.set i ⟨c, f, q'⟩)
  | a :: l, 0, c, f, q, q', h => by
    simp at h
    subst h
    rfl
  | a :: l, i + 1, c, f, q, q', h => by
    have := seVs_set l i c f q q' (by simpa using h)
    show (a.vs ++ seVs l).set _ _ = a.vs ++ seVs (l.set i _)
    rw [List.set_append_right _ _ (by simp [SE.vs]; omega), ← this]
    congr 2
    simp [SE.vs]
    omega
theorem twVs_set : ∀ (l : List (List UInt8 × Int)) (i : Nat) (c : List UInt8) (q q' : Int), l[i]? = some (c, q) → (twVs l).set (i * 2 + 1) (.int .i64 q') = twVs (l.set i (c, q'))
  | a :: l, 0, c, q, q', h => by
    simp at h
    subst h
    rfl
  | a :: l, i + 1, c, q, q', h => by
    have := twVs_set l i c q q' (by simpa using h)
    show (twOne a ++ twVs l).set _ _ = twOne a ++ twVs (l.set i _)
    rw [List.set_append_right _ _ (by simp [twOne]; omega), ← this]
    congr 2
    simp [twOne]
    omega

/-- Add: where it stands, what becomes of the list. -/
def atE (c f : List UInt8) (e : SE) : Bool := decide (e.c = c) && decide (e.f = f)
def idxE (es : List SE) (c f : List UInt8) : Nat := es.findIdx (atE c f)
def hadE (es : List SE) (c f : List UInt8) : Bool := decide (idxE es c f < es.length)
def addE (es : List SE) (c f : List UInt8) (q : Int) : List SE := if idxE es c f < es.length then es.set (idxE es c f) ⟨c, f, q⟩ else es ++ [⟨c, f, q⟩]
theorem idxE_at (es : List SE) (c f : List UInt8) (i : Nat) (e : SE) (h : es[i]? = some e) (hc : e.c = c) (hf : e.f = f) (hb : ∀ j e', j < i → es[j]? = some e' → atE c f e' = false) : idxE es c f = i := by
  obtain ⟨hl, he⟩ := List.getElem?_eq_some_iff.1 h
  unfold idxE
  rw [List.findIdx_eq hl]
  refine ⟨by rw [he]; simp [atE, hc, hf], fun j hj => ?_⟩
  exact hb j _ hj (List.getElem?_eq_getElem (by omega))
theorem idxE_no (es : List SE) (c f : List UInt8) (hb : ∀ j e', j < es.length → es[j]? = some e' → atE c f e' = false) : idxE es c f = es.length := by
  unfold idxE
  refine List.findIdx_eq_length.2 fun x hx => ?_
  obtain ⟨j, hj, rfl⟩ := List.mem_iff_getElem.1 hx
  exact hb j _ hj (List.getElem?_eq_getElem hj)
/-- All but those of a client, with a filter, or any, if it is empty. -/
def keepE (c f : List UInt8) (e : SE) : Bool := !decide (e.c = c) || (!decide (f = []) && !decide (e.f = f))
def dropE (es : List SE) (c f : List UInt8) : List SE := es.filter (keepE c f)
/-- Of. -/
def ofE (es : List SE) (c : List UInt8) : List (List UInt8 × Int) := (es.filter fun e => decide (e.c = c)).map fun e => (e.f, e.q)
/-- Find. -/
def wantIn (c : List UInt8) (q : Int) : List (List UInt8 × Int) → List (List UInt8 × Int)
  | [] => [(c, q)]
  | (d, p) :: r => if Op.bytesLess d c = true then (d, p) :: wantIn c q r else if d = c then (d, max p q) :: r else (c, q) :: (d, p) :: r
def wantE (n : List UInt8) (o : List (List UInt8 × Int)) (e : SE) : List (List UInt8 × Int) := if matchL e.f n = true then wantIn e.c e.q o else o
def findE (es : List SE) (n : List UInt8) : List (List UInt8 × Int) := es.foldl (wantE n) []
theorem wantIn_at (c : List UInt8) (q : Int) : ∀ (o : List (List UInt8 × Int)) (i : Nat), i ≤ o.length → (∀ j s, j < i → o[j]? = some s → Op.bytesLess s.1 c = true) →
    (∀ s, o[i]? = some s → Op.bytesLess s.1 c = false) → wantIn c q o = match o[i]? with
      | none => o ++ [(c, q)]
      | some s => if s.1 = c then o.set i (s.1, max s.2 q) else o.take i ++ (c, q) :: o.drop i
  | [], i, hi, _, _ => by
    obtain rfl : i = 0 := by simpa using hi
    rfl
  | (d, p) :: r, 0, _, _, h => by
    have hd := h (d, p) rfl
    simp only at hd
    show (if _ then _ else _) = _
    rw [hd]
    simp only [Bool.false_eq_true, if_false, List.getElem?_cons_zero]
    split <;> simp
  | (d, p) :: r, i + 1, hi, hb, h => by
    have hd := hb 0 (d, p) (by omega) rfl
    simp only at hd
    have ih := wantIn_at c q r i (by simpa using hi) (fun j s hj hs => hb (j + 1) s (by omega) (by simpa using hs)) (fun s hs => h s (by simpa using hs))
    show (if _ then _ else _) = _
    rw [hd, if_pos rfl, ih]
    simp only [List.getElem?_cons_succ]
    match r[i]? with
    | none => rfl
    | some s =>
      simp only
      split <;> rfl
theorem wantIn_len (c : List UInt8) (q : Int) (o : List (List UInt8 × Int)) : (wantIn c q o).length ≤ o.length + 1 := by
  induction o with
  | nil => simp [wantIn]
  | cons a o ih =>
    obtain ⟨d, p⟩ := a
    show (if _ then _ else _ : List _).length ≤ _
    split
    · simp; omega
    · split <;> simp
theorem findE_snoc (es : List SE) (e : SE) (n : List UInt8) : findE (es ++ [e]) n = wantE n (findE es n) e := by
  unfold findE
  rw [List.foldl_append]
  rfl
theorem findE_len (n : List UInt8) : ∀ es : List SE, (findE es n).length ≤ es.length := by
  have key : ∀ (es : List SE) (o : List (List UInt8 × Int)), (es.foldl (wantE n) o).length ≤ o.length + es.length := by
    intro es
    induction es with
    | nil => intro o; simp
    | cons e es ih =>
      intro o
      have h1 := ih (wantE n o e)
      have h2 : (wantE n o e).length ≤ o.length + 1 := by
        unfold wantE
        split
        · exact wantIn_len _ _ _
        · omega
      simp only [List.foldl_cons, List.length_cons]
      omega
  intro es
  have := key es []
  unfold findE
  simp at this
  exact this

end Go.Proofs.YtfjafpbmgbnllaaGreat
