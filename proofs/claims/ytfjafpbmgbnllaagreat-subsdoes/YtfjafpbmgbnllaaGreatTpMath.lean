/-
  What is proved here: the levels of texts, names, filters, and which filter takes which name, as plain functions over bytes, and what follows of them. Plain lists, nothing of the program. No condition of its own.
-/
import Derived.Test.YtfjafpbmgbnllaaGreatUt3
namespace Go.Proofs.YtfjafpbmgbnllaaGreat
set_option linter.unusedVariables false
set_option linter.unusedSimpArgs false
open Go.RowKit

/-- The levels of a text. -/
def lvls : List UInt8 → List (List UInt8)
  | [] => [[]]
  | c :: cs => if c = 47 then [] :: lvls cs else
    match lvls cs with
    | [] => [[c]]
    | l :: ls => (c :: l) :: ls
theorem lvls_cons (xs : List UInt8) : ∃ l ls, lvls xs = l :: ls := by
  cases xs with
  | nil => exact ⟨_, _, rfl⟩
  | cons c cs =>
    rw [lvls]
    split
    · exact ⟨_, _, rfl⟩
    · split <;> exact ⟨_, _, rfl⟩
theorem lvls_slash (y : List UInt8) : ∀ x : List UInt8, lvls (x ++ 47 :: y) = lvls x ++ lvls y
  | [] => by simp [lvls]
  | c :: cs => by
    have ih := lvls_slash y cs
    obtain ⟨l, ls, e⟩ := lvls_cons cs
    rw [e] at ih
    rw [List.cons_append, lvls, lvls, ih, e]
    split <;> simp
theorem lvls_none : ∀ {x : List UInt8}, (47 : UInt8) ∉ x → lvls x = [x]
  | [], _ => rfl
  | c :: cs, h => by
    have h1 : c ≠ 47 := fun e => h (by simp [e])
    rw [lvls, if_neg h1, lvls_none (x := cs) (fun e => h (by simp [e]))]
theorem lvls_cut {a b : List UInt8} (h : (47 : UInt8) ∉ a) : lvls (a ++ 47 :: b) = a :: lvls b := by
  rw [lvls_slash, lvls_none h]; rfl
theorem cut_or (x : List UInt8) : (47 : UInt8) ∉ x ∨ ∃ a b, x = a ++ 47 :: b ∧ (47 : UInt8) ∉ a := by
  induction x with
  | nil => exact .inl (by simp)
  | cons c cs ih =>
    by_cases h : c = 47
    · exact .inr ⟨[], cs, by simp [h], by simp⟩
    · rcases ih with h1 | ⟨a, b, rfl, h2⟩
      · exact .inl (by simp [h1, Ne.symm h])
      · exact .inr ⟨c :: a, b, rfl, by simp [h2, Ne.symm h]⟩
theorem lvls_free : ∀ (x : List UInt8) (l : List UInt8), l ∈ lvls x → (47 : UInt8) ∉ l
  | [], l, h => by simp [lvls] at h; simp [h]
  | c :: cs, l, h => by
    have ih := lvls_free cs
    obtain ⟨m, ms, e⟩ := lvls_cons cs
    rw [lvls, e] at h
    rw [e] at ih
    split at h
    · rcases List.mem_cons.1 h with rfl | h
      · simp
      · exact ih l h
    · rename_i hc
      rcases List.mem_cons.1 h with rfl | h
      · have := ih m (by simp)
        simp [this, Ne.symm hc]
      · exact ih l (by simp [h])

/-- Levels joined. -/
def joinL : List (List UInt8) → List UInt8
  | [] => []
  | [l] => l
  | l :: m :: ls => l ++ 47 :: joinL (m :: ls)
theorem joinL_lvls : ∀ x : List UInt8, joinL (lvls x) = x
  | [] => rfl
  | c :: cs => by
    have ih := joinL_lvls cs
    obtain ⟨m, ms, e⟩ := lvls_cons cs
    rw [e] at ih
    rw [lvls, e]
    split
    · rename_i hc
      rw [joinL, ih, hc]; rfl
    · cases ms with
      | nil => rw [joinL] at ih ⊢; rw [ih]
      | cons n ns => rw [joinL] at ih ⊢; rw [List.cons_append, ih]
theorem lvls_inj {x y : List UInt8} (h : lvls x = lvls y) : x = y := by rw [← joinL_lvls x, h, joinL_lvls]
theorem lvls_join : ∀ (ls : List (List UInt8)), ls ≠ [] → (∀ l ∈ ls, (47 : UInt8) ∉ l) → lvls (joinL ls) = ls
  | [], h, _ => absurd rfl h
  | [l], _, h => by rw [joinL]; exact lvls_none (h l (by simp))
  | l :: m :: ls, _, h => by
    rw [joinL, lvls_cut (h l (by simp)), lvls_join (m :: ls) (by simp) (fun k hk => h k (by simp [hk]))]
theorem joinL_snoc (x : List UInt8) : ∀ (ls : List (List UInt8)), ls ≠ [] → joinL (ls ++ [x]) = joinL ls ++ 47 :: x
  | [], h => absurd rfl h
  | [l], _ => rfl
  | l :: m :: ls, _ => by
    have := joinL_snoc x (m :: ls) (by simp)
    show joinL (l :: m :: (ls ++ [x])) = _
    rw [joinL, joinL]
    rw [show (m :: ls) ++ [x] = m :: (ls ++ [x]) from rfl] at this
    rw [this]
    simp
theorem joinL_set : ∀ (ls : List (List UInt8)) (i : Nat), (joinL (ls.set i [43])).length ≤ (joinL ls).length + 1
  | [], i => by simp [joinL]
  | [l], 0 => by simp [joinL]
  | [l], i + 1 => by simp [joinL]
  | l :: m :: ls, 0 => by simp [joinL]
  | l :: m :: ls, i + 1 => by
    have := joinL_set (m :: ls) i
    obtain ⟨m', ls', e⟩ : ∃ m' ls', (m :: ls).set i [43] = m' :: ls' := by
      cases i with
      | zero => exact ⟨_, _, rfl⟩
      | succ i => exact ⟨_, _, rfl⟩
    rw [List.set_cons_succ, e, joinL, joinL]
    rw [e] at this
    simp only [List.length_append, List.length_cons]
    omega
theorem joinL_take (ls : List (List UInt8)) (i : Nat) : (joinL (ls.take i)).length ≤ (joinL ls).length := by
  induction ls generalizing i with
  | nil => simp
  | cons l ls ih =>
    cases i with
    | zero => simp [joinL]
    | succ i =>
      have := ih i
      rw [List.take_succ_cons]
      cases ls with
      | nil => simp
      | cons m ls =>
        cases i with
        | zero => simp [joinL]
        | succ i =>
          rw [List.take_succ_cons] at this ⊢
          rw [joinL, joinL]
          simp only [List.length_append, List.length_cons]
          omega

/-- Is a text made of points? -/
def okU (xs : List UInt8) : Bool := (ptsL xs).isSome
theorem finP_isSome (p s l : Nat) (r : Option (List Nat)) : (finP p s l r).isSome = if 0 < l then r.isSome else (isPt p && decide (szP p = s)) && r.isSome := by
  unfold finP
  split
  · rfl
  · split
    · rename_i h
      simp [h.1, h.2]
    · rename_i h
      cases h1 : isPt p
      · simp
      · have : ¬ szP p = s := fun e => h ⟨h1, e⟩
        simp [this]
theorem goP_slash (y : List UInt8) : ∀ (x : List UInt8) (p s l : Nat), (goP p s l (x ++ 47 :: y)).isSome = ((goP p s l x).isSome && (goP 0 0 0 y).isSome)
  | [], p, s, l => by
    rw [List.nil_append]
    by_cases h : l = 0
    · subst h
      rw [goP_first]
      have e1 : (47 : UInt8).toNat = 47 := rfl
      have e2 : fdig 47 = 47 := rfl
      have e3 : fsz 47 = 1 := rfl
      rw [e1, e2, e3, goP_zero, finP_ok (by decide) (by decide)]
      simp [goP]
    · rw [goP_bad _ _ _ _ _ (by omega) (by decide)]
      simp [goP, h]
  | c :: cs, p, s, l => by
    have ih := goP_slash y cs
    rw [List.cons_append]
    by_cases h : l = 0
    · subst h
      rw [goP_first, goP_first, finP_isSome, finP_isSome, ih]
      split
      · rfl
      · simp only [Bool.and_assoc]
    · by_cases hc : 128 ≤ c.toNat ∧ c.toNat < 192
      · rw [goP_rest _ _ _ _ _ (by omega) hc.1 hc.2, goP_rest _ _ _ _ _ (by omega) hc.1 hc.2, finP_isSome, finP_isSome, ih]
        split
        · rfl
        · simp only [Bool.and_assoc]
      · rw [goP_bad _ _ _ _ _ (by omega) hc, goP_bad _ _ _ _ _ (by omega) hc]
        rfl
theorem okU_slash (x y : List UInt8) : okU (x ++ 47 :: y) = (okU x && okU y) := goP_slash y x 0 0 0
theorem okU_join : ∀ ls : List (List UInt8), okU (joinL ls) = ls.all okU
  | [] => rfl
  | [l] => by simp [joinL]
  | l :: m :: ls => by rw [joinL, okU_slash, okU_join (m :: ls), List.all_cons (a := l)]
theorem okU_lvls (x : List UInt8) : okU x = (lvls x).all okU := by rw [← okU_join, joinL_lvls]
theorem okU_low (c : UInt8) (h : c.toNat < 128) (h0 : 0 < c.toNat) (x : List UInt8) : okU (c :: x) = okU x := by
  have e : [c] = enc c.toNat := by unfold enc; rw [if_pos h]; simp
  have := ptsL_enc c.toNat ((isPt_iff _).2 ⟨by omega, by omega, by omega⟩) x
  rw [← e] at this
  unfold okU
  rw [show c :: x = [c] ++ x from rfl, this]
  cases ptsL x <;> rfl

/-- Does a sign + or # stand in it? -/
def wildL (l : List UInt8) : Bool := l.contains 43 || l.contains 35
theorem wildL_cons (c : UInt8) (l : List UInt8) : wildL (c :: l) = (c == 43 || c == 35 || wildL l) := by
  unfold wildL
  simp only [List.contains_cons, BEq.comm (a := (43 : UInt8)), BEq.comm (a := (35 : UInt8))]
  cases c == 43 <;> cases c == 35 <;> simp
theorem wildL_append (x y : List UInt8) : wildL (x ++ y) = (wildL x || wildL y) := by
  induction x with
  | nil => simp [wildL]
  | cons c cs ih => rw [List.cons_append, wildL_cons, wildL_cons, ih]; simp only [Bool.or_assoc]
theorem wildL_join : ∀ ls : List (List UInt8), wildL (joinL ls) = ls.any wildL
  | [] => rfl
  | [l] => by simp [joinL]
  | l :: m :: ls => by
    rw [joinL, wildL_append, wildL_cons, wildL_join (m :: ls), List.any_cons (a := l)]
    rfl
theorem wildL_lvls (x : List UInt8) : wildL x = (lvls x).any wildL := by rw [← wildL_join, joinL_lvls]

/-- May a level stand in a filter, as the last one or ahead of it? -/
def mayS (l : List UInt8) (last : Bool) : Bool := if l = [43] then true else if l = [35] then last else !wildL l
theorem mayS_plain {l : List UInt8} (h : wildL l = false) (b : Bool) : mayS l b = true := by
  unfold mayS
  rw [if_neg (by rintro rfl; cases h), if_neg (by rintro rfl; cases h), h]
  rfl
/-- Each level, and whether it is the last. -/
def lasts : List (List UInt8) → List (List UInt8 × Bool)
  | [] => []
  | [l] => [(l, true)]
  | l :: m :: ls => (l, false) :: lasts (m :: ls)
theorem lasts_cons (l : List UInt8) {ls : List (List UInt8)} (h : ls ≠ []) : lasts (l :: ls) = (l, false) :: lasts ls := by
  cases ls with
  | nil => exact absurd rfl h
  | cons m ms => rfl
theorem lasts_snoc (x : List UInt8) : ∀ ls : List (List UInt8), lasts (ls ++ [x]) = ls.map (fun l => (l, false)) ++ [(x, true)]
  | [] => rfl
  | l :: ls => by rw [List.cons_append, lasts_cons _ (by simp), lasts_snoc x ls]; rfl
theorem lasts_length : ∀ ls : List (List UInt8), (lasts ls).length = ls.length
  | [] => rfl
  | [l] => rfl
  | l :: m :: ls => by rw [lasts, List.length_cons, lasts_length (m :: ls), List.length_cons (a := l)]
theorem lasts_get : ∀ (ls : List (List UInt8)) (i : Nat) (h : i < ls.length), (lasts ls)[i]? = some (ls[i], decide (i + 1 = ls.length))
  | [], i, h => by simp at h
  | [l], i, h => by
    obtain rfl : i = 0 := by simpa using h
    rfl
  | l :: m :: ls, 0, h => by simp [lasts]
  | l :: m :: ls, i + 1, h => by
    have := lasts_get (m :: ls) i (by simpa using h)
    rw [lasts, List.getElem?_cons_succ, this]
    simp
/-- May levels stand in a filter? -/
def filtL (ls : List (List UInt8)) : Bool := (lasts ls).all fun p => mayS p.1 p.2
/-- Is it what names and filters are made of? -/
def textL (x : List UInt8) : Bool := !x.isEmpty && (ptsU x).isSome
def nameL (x : List UInt8) : Bool := textL x && !wildL x
def filterL (x : List UInt8) : Bool := textL x && filtL (lvls x)
/-- Do levels of a filter take those of a name? -/
def takesL : List (List UInt8) → List (List UInt8) → Bool
  | [], ns => ns.isEmpty
  | f :: fs, ns => if f = [35] then true else
    match ns with
    | [] => false
    | n :: ns => if f = [43] ∨ f = n then takesL fs ns else false
theorem takesL_eq (f : List UInt8) (fs ns : List (List UInt8)) : takesL (f :: fs) ns = if f = [35] then true else
    match ns with
    | [] => false
    | n :: ns => if f = [43] ∨ f = n then takesL fs ns else false := by
  cases ns <;> rw [takesL]
/-- Does a filter take a name? -/
def matchL (f n : List UInt8) : Bool := if n.head? = some 36 ∧ wildL (f.take 1) = true then false else takesL (lvls f) (lvls n)
/-- The same of any two texts: no, if the one is no filter or the other no name. -/
def tkL (f n : List UInt8) : Bool := filterL f && nameL n && matchL f n

theorem textL_iff (x : List UInt8) (h : x.length ≤ 65535) : textL x = (!x.isEmpty && okU x) := by unfold textL okU; rw [ptsU_small x h]
theorem nameL_parts {x : List UInt8} (h : nameL x = true) : x ≠ [] ∧ textL x = true ∧ wildL x = false := by
  unfold nameL at h
  rw [Bool.and_eq_true] at h
  refine ⟨?_, h.1, by simpa using h.2⟩
  rintro rfl
  exact absurd h.1 (by simp [textL])
theorem filterL_parts {x : List UInt8} (h : filterL x = true) : x ≠ [] ∧ textL x = true ∧ filtL (lvls x) = true := by
  unfold filterL at h
  rw [Bool.and_eq_true] at h
  refine ⟨?_, h.1, h.2⟩
  rintro rfl
  exact absurd h.1 (by simp [textL])
theorem textL_ok {x : List UInt8} (h : textL x = true) : okU x = true ∧ x.length ≤ 65535 := by
  unfold textL ptsU at h
  split at h
  · rename_i hl
    exact ⟨by unfold okU; simpa using (Bool.and_eq_true _ _ ▸ h).2, hl⟩
  · simp at h
theorem textL_of {x : List UInt8} (h0 : x ≠ []) (h1 : okU x = true) (h2 : x.length ≤ 65535) : textL x = true := by
  rw [textL_iff x h2, h1]
  cases x with
  | nil => exact absurd rfl h0
  | cons _ _ => rfl
theorem name_free {x : List UInt8} (h : wildL x = false) : ∀ l ∈ lvls x, wildL l = false := by
  rw [wildL_lvls] at h
  intro l hl
  simpa using List.any_eq_false.1 h l hl
theorem filtL_free {ls : List (List UInt8)} (h : ∀ l ∈ ls, wildL l = false) : filtL ls = true := by
  unfold filtL
  rw [List.all_eq_true]
  intro p hp
  obtain ⟨i, hi, e⟩ := List.getElem_of_mem hp
  have := lasts_get ls i (by rw [← lasts_length]; exact hi)
  rw [List.getElem?_eq_getElem hi, e] at this
  injection this with this
  rw [this]
  exact mayS_plain (h _ (List.getElem_mem _)) _
theorem name_filter {x : List UInt8} (h : nameL x = true) : filterL x = true := by
  obtain ⟨_, h1, h2⟩ := nameL_parts h
  unfold filterL
  rw [h1, filtL_free (name_free h2)]
  rfl
theorem free_ne {l : List UInt8} (h : wildL l = false) : l ≠ [43] ∧ l ≠ [35] := ⟨(by rintro rfl; cases h), (by rintro rfl; cases h)⟩
theorem wild_take {x : List UInt8} (h : wildL x = false) : wildL (x.take 1) = false := by
  cases x with
  | nil => rfl
  | cons c cs => rw [wildL_cons] at h; rw [List.take_succ_cons, List.take_zero, wildL_cons]; revert h; cases c == 43 <;> cases c == 35 <;> simp [wildL]

/-- Plain levels take just themselves. -/
theorem takesL_free : ∀ (fs ns : List (List UInt8)), (∀ l ∈ fs, wildL l = false) → takesL fs ns = decide (fs = ns)
  | [], ns, _ => by cases ns <;> simp [takesL]
  | f :: fs, ns, h => by
    obtain ⟨h1, h2⟩ := free_ne (h f (by simp))
    rw [takesL_eq, if_neg h2]
    cases ns with
    | nil => simp
    | cons n ns =>
      have := takesL_free fs ns (fun l hl => h l (by simp [hl]))
      by_cases e : f = n
      · subst e
        simp [this]
      · simp [h1, e]
theorem plain_match {a b : List UInt8} (ha : nameL a = true) (hb : nameL b = true) : tkL a b = decide (a = b) := by
  obtain ⟨_, _, h2⟩ := nameL_parts ha
  unfold tkL matchL
  rw [name_filter ha, hb, wild_take h2, if_neg (by simp), takesL_free _ _ (name_free h2)]
  simp only [Bool.and_self, Bool.true_and]
  by_cases e : a = b
  · simp [e]
  · simp only [e, decide_false]
    exact decide_eq_false (fun h => e (lvls_inj h))
theorem hash_filter : filterL [35] = true := by decide
theorem hash_match {a : List UInt8} (ha : nameL a = true) : tkL [35] a = decide (a.head? ≠ some 36) := by
  unfold tkL matchL
  rw [hash_filter, ha]
  have e : takesL (lvls [35]) (lvls a) = true := rfl
  have e2 : wildL (([35] : List UInt8).take 1) = true := rfl
  rw [e, e2]
  by_cases h : a.head? = some 36 <;> simp [h]

/-- A level more behind both. -/
theorem takesL_snoc (f n : List UInt8) (hf : f ≠ [35]) : ∀ (fs ns : List (List UInt8)), (∀ l ∈ fs, l ≠ [35]) → takesL (fs ++ [f]) (ns ++ [n]) = (takesL fs ns && decide (f = [43] ∨ f = n))
  | [], [], _ => by simp [takesL, hf]
  | [], m :: ns, _ => by
    show takesL [f] (m :: (ns ++ [n])) = _
    simp [takesL, hf]
  | x :: fs, [], h => by
    have hx := h x (by simp)
    show takesL (x :: (fs ++ [f])) [n] = _
    rw [takesL_eq, takesL_eq, if_neg hx, if_neg hx]
    show (if x = [43] ∨ x = n then takesL (fs ++ [f]) [] else false) = _
    have : takesL (fs ++ [f]) [] = false := by
      cases fs with
      | nil => simp [takesL, hf]
      | cons y fs => simp [takesL, h y (by simp)]
    rw [this]
    simp
  | x :: fs, m :: ns, h => by
    have hx := h x (by simp)
    have ih := takesL_snoc f n hf fs ns (fun l hl => h l (by simp [hl]))
    show takesL (x :: (fs ++ [f])) (m :: (ns ++ [n])) = _
    rw [takesL_eq, takesL_eq, if_neg hx, if_neg hx]
    show (if x = [43] ∨ x = m then takesL (fs ++ [f]) (ns ++ [n]) else false) = ((if x = [43] ∨ x = m then takesL fs ns else false) && _)
    rw [ih]
    split <;> simp
theorem takesL_hash (rest : List (List UInt8)) : ∀ (fs ns : List (List UInt8)), (∀ l ∈ fs, l ≠ [35]) → takesL fs ns = true → takesL (fs ++ [[35]]) (ns ++ rest) = true
  | [], ns, _, _ => by simp [takesL]
  | x :: fs, [], h, ht => by rw [takesL_eq, if_neg (h x (by simp))] at ht; cases ht
  | x :: fs, m :: ns, h, ht => by
    have hx := h x (by simp)
    rw [takesL_eq, if_neg hx] at ht
    show takesL (x :: (fs ++ [[35]])) (m :: (ns ++ rest)) = true
    rw [takesL_eq, if_neg hx]
    show (if x = [43] ∨ x = m then takesL (fs ++ [[35]]) (ns ++ rest) else false) = true
    replace ht : (if x = [43] ∨ x = m then takesL fs ns else false) = true := ht
    split at ht
    · rename_i hc
      rw [if_pos hc]
      exact takesL_hash rest fs ns (fun l hl => h l (by simp [hl])) ht
    · cases ht
/-- A filter whose last level is no #. -/
theorem filt_all {ls : List (List UInt8)} (h : filtL ls = true) (hl : ls.getLast? ≠ some [35]) : ∀ l ∈ ls, mayS l false = true := by
  intro l hm
  obtain ⟨i, hi, e⟩ := List.getElem_of_mem hm
  have h1 := List.all_eq_true.1 h (ls[i], decide (i + 1 = ls.length)) (List.mem_of_getElem? (lasts_get ls i hi))
  rw [e] at h1
  by_cases hc : i + 1 = ls.length
  · rw [decide_eq_true hc] at h1
    have hn : l ≠ [35] := by
      rintro rfl
      apply hl
      rw [List.getLast?_eq_getElem?, ← hc, Nat.add_sub_cancel, List.getElem?_eq_getElem hi, e]
    unfold mayS at h1 ⊢
    rw [if_neg hn] at h1 ⊢
    exact h1
  · rw [decide_eq_false hc] at h1
    exact h1
theorem may_ne {l : List UInt8} (h : mayS l false = true) : l ≠ [35] := by rintro rfl; cases h
theorem filt_snoc {ls : List (List UInt8)} (h : ∀ l ∈ ls, mayS l false = true) (x : List UInt8) (hx : mayS x true = true) : filtL (ls ++ [x]) = true := by
  unfold filtL
  rw [lasts_snoc, List.all_append, List.all_eq_true.2 ?_]
  · simp [hx]
  · intro p hp
    obtain ⟨l, hl, rfl⟩ := List.mem_map.1 hp
    exact h l hl
theorem lvls_last {x : List UInt8} (h : (lvls x).getLast? = some [35]) : x.getLast? = some 35 := by
  have := joinL_lvls x
  obtain ⟨ys, hy⟩ := List.getLast?_eq_some_iff.1 h
  rw [hy] at this
  cases ys with
  | nil => rw [← this]; rfl
  | cons y ys => rw [joinL_snoc _ _ (by simp)] at this; rw [← this]; simp

theorem head_app {x y : List UInt8} (h : x ≠ []) : (x ++ y).head? = x.head? := by cases x with | nil => exact absurd rfl h | cons => rfl
theorem take1_app {x y : List UInt8} (h : x ≠ []) : (x ++ y).take 1 = x.take 1 := by cases x with | nil => exact absurd rfl h | cons => rfl

/-- TopicLevels' three. -/
theorem levels_more {F N L : List UInt8} (hF : filterL F = true) (hN : nameL N = true) (hl : F.getLast? ≠ some 35) (hL : (47 : UInt8) ∉ L) (hM : nameL (N ++ 47 :: L) = true) (hs : F.length + L.length ≤ 60000) :
    tkL (F ++ 47 :: L) (N ++ 47 :: L) = tkL F N ∧ tkL (F ++ [47, 43]) (N ++ 47 :: L) = tkL F N ∧ (tkL F N = true → tkL (F ++ [47, 35]) N = true ∧ tkL (F ++ [47, 35]) (N ++ 47 :: L) = true) := by
  obtain ⟨f0, f1, f2⟩ := filterL_parts hF
  obtain ⟨n0, n1, n2⟩ := nameL_parts hN
  obtain ⟨m0, m1, m2⟩ := nameL_parts hM
  have hall := filt_all f2 (fun e => hl (lvls_last e))
  have hne : ∀ l ∈ lvls F, l ≠ [35] := fun l h => may_ne (hall l h)
  have wL : wildL L = false := by
    rw [wildL_append, wildL_cons] at m2
    revert m2
    cases wildL N <;> cases wildL L <;> simp
  have oF := (textL_ok f1).1
  have oL : okU L = true := by
    have := (textL_ok m1).1
    rw [okU_slash, Bool.and_eq_true] at this
    exact this.2
  have hf : ∀ x : List UInt8, (47 : UInt8) ∉ x → okU x = true → mayS x true = true → x.length ≤ L.length + 1 → filterL (F ++ 47 :: x) = true := by
    intro x hx ho hm hlen
    unfold filterL
    rw [textL_of (by simp) (by rw [okU_slash, oF, ho]; rfl) (by simp; omega), lvls_slash, lvls_none hx, filt_snoc hall x hm]
    rfl
  have hm : ∀ (x y : List UInt8), (47 : UInt8) ∉ x → (47 : UInt8) ∉ y → x ≠ [35] → (x = [43] ∨ x = y) → matchL (F ++ 47 :: x) (N ++ 47 :: y) = matchL F N := by
    intro x y hx hy hx2 hxy
    unfold matchL
    rw [head_app n0, take1_app f0, lvls_slash, lvls_slash, lvls_none hx, lvls_none hy, takesL_snoc x y hx2 _ _ hne, decide_eq_true hxy, Bool.and_true]
  have hh : ∀ M : List UInt8, M.head? = N.head? → (∃ rest, lvls M = lvls N ++ rest) → matchL F N = true → matchL (F ++ 47 :: [35]) M = true := by
    intro M h1 ⟨rest, h2⟩ h3
    unfold matchL at h3 ⊢
    rw [h1, take1_app f0, lvls_slash, h2]
    split at h3
    · cases h3
    · rename_i hc
      rw [if_neg hc]
      exact takesL_hash rest _ _ hne h3
  have e1 : tkL F N = matchL F N := by unfold tkL; rw [hF, hN]; rfl
  refine ⟨?_, ?_, fun ht => ?_⟩
  · rw [e1]; unfold tkL
    rw [hf L hL oL (mayS_plain wL _) (by omega), hM, hm L L hL hL (free_ne wL).2 (.inr rfl)]; rfl
  · rw [e1]; unfold tkL
    rw [hf [43] (by decide) (by decide) (by decide) (by simp), hM, hm [43] L (by decide) hL (by decide) (.inl rfl)]; rfl
  · rw [e1] at ht
    unfold tkL
    rw [hf [35] (by decide) (by decide) (by decide) (by simp), hM, hN, hh N rfl ⟨[], by simp⟩ ht, hh (N ++ 47 :: L) (head_app n0) ⟨[L], by rw [lvls_slash, lvls_none hL]⟩ ht]
    exact ⟨rfl, rfl⟩

/-- A level more ahead of both. -/
theorem ahead_match {F N L M : List UInt8} (hF : filterL F = true) (hN : nameL N = true) (hM : nameL (M ++ 47 :: N) = true) (hL : (47 : UInt8) ∉ L) (hM' : (47 : UInt8) ∉ M) (oL : okU L = true) (hm : mayS L false = true) (hs : F.length + L.length ≤ 60000)
    (hN36 : N.head? ≠ some 36) (hLM : L = [43] ∨ L = M) (hd : ¬ ((M ++ 47 :: N).head? = some 36 ∧ wildL ((L ++ 47 :: F).take 1) = true)) : tkL (L ++ 47 :: F) (M ++ 47 :: N) = tkL F N := by
  obtain ⟨f0, f1, f2⟩ := filterL_parts hF
  have oF := (textL_ok f1).1
  obtain ⟨g, gs, hg⟩ := lvls_cons F
  have hfl : filterL (L ++ 47 :: F) = true := by
    unfold filterL
    rw [textL_of (by simp) (by rw [okU_slash, oL, oF]; rfl) (by simp; omega), lvls_cut hL]
    unfold filtL at f2 ⊢
    rw [hg] at f2 ⊢
    rw [lasts_cons _ (by simp), List.all_cons, f2, hm]
    rfl
  unfold tkL
  rw [hfl, hM, hF, hN]
  simp only [Bool.and_self, Bool.true_and]
  unfold matchL
  rw [if_neg hd, if_neg (by intro h; exact hN36 h.1), lvls_cut hL, lvls_cut hM', takesL_eq, if_neg (may_ne hm)]
  show (if L = [43] ∨ L = M then _ else false) = _
  rw [if_pos hLM]
theorem name_ahead {N L : List UInt8} (hN : nameL N = true) (hL : okU L = true) (wL : wildL L = false) (hs : N.length + L.length ≤ 60000) : nameL (L ++ 47 :: N) = true := by
  obtain ⟨n0, n1, n2⟩ := nameL_parts hN
  unfold nameL
  rw [textL_of (by simp) (by rw [okU_slash, hL, (textL_ok n1).1]; rfl) (by simp; omega), wildL_append, wildL_cons, wL, n2]
  rfl
theorem dollar_more {F N L : List UInt8} (hF : filterL F = true) (hN : nameL N = true) (hLn : nameL L = true) (hL : (47 : UInt8) ∉ L) (hN36 : N.head? ≠ some 36) (h1 : F.length + L.length ≤ 50000) (h2 : N.length + L.length ≤ 50000) :
    tkL (L ++ 47 :: F) (L ++ 47 :: N) = tkL F N ∧ tkL (36 :: L ++ 47 :: F) (36 :: L ++ 47 :: N) = tkL F N ∧ tkL ([43] ++ 47 :: F) (36 :: L ++ 47 :: N) = false ∧ (L.head? ≠ some 36 → tkL ([43] ++ 47 :: F) (L ++ 47 :: N) = tkL F N) := by
  obtain ⟨l0, l1, l2⟩ := nameL_parts hLn
  have oL := (textL_ok l1).1
  have oD : okU (36 :: L) = true := by rw [okU_low 36 (by decide) (by decide)]; exact oL
  have wD : wildL (36 :: L) = false := by rw [wildL_cons, l2]; rfl
  have nL := name_ahead hN oL l2 (by omega)
  have nD := name_ahead hN oD wD (by simp; omega)
  have hD : (47 : UInt8) ∉ 36 :: L := by simp [hL]
  refine ⟨ahead_match hF hN nL hL hL oL (mayS_plain l2 _) (by omega) hN36 (.inr rfl) ?_, ahead_match hF hN nD hD hD oD (mayS_plain wD _) (by simp; omega) hN36 (.inr rfl) ?_, ?_, fun h => ahead_match hF hN nL (by decide) hL (by decide) (by decide) (by simp; omega) hN36 (.inl rfl) ?_⟩
  · rw [take1_app l0, wild_take l2]; simp
  · rw [take1_app (by simp), wild_take wD]; simp
  · unfold tkL matchL
    rw [if_pos ⟨rfl, rfl⟩, Bool.and_false]
  · rw [head_app l0]; exact fun e => h e.1

/-- With + in place of a level. -/
def sameU (l m : List (List UInt8)) (k : Nat) (i : Nat) : Bool := (List.range i).all fun j => decide (j = k) || decide (l[j]? = m[j]?)
theorem sameU_succ (l m : List (List UInt8)) (k i : Nat) : sameU l m k (i + 1) = (sameU l m k i && (decide (i = k) || decide (l[i]? = m[i]?))) := by
  unfold sameU
  rw [List.range_succ, List.all_append]
  simp
theorem sameU_shift (x y : List UInt8) (l m : List (List UInt8)) (k i : Nat) : sameU (x :: l) (y :: m) (k + 1) (i + 1) = (decide (x = y) && sameU l m k i) := by
  unfold sameU
  rw [List.range_succ_eq_map, List.all_cons, List.all_map]
  congr 1
  · simp
  · congr 1
    funext j
    simp
theorem takesL_wide : ∀ (l m : List (List UInt8)) (k : Nat), (∀ x ∈ l, wildL x = false) → k < l.length → takesL (l.set k [43]) m = (decide (m.length = l.length) && sameU l m k l.length)
  | [], m, k, _, h => by simp at h
  | x :: l, m, 0, hw, _ => by
    rw [List.set_cons_zero, takesL_eq, if_neg (by decide)]
    cases m with
    | nil => simp
    | cons y m =>
      have := takesL_free l m (fun z hz => hw z (by simp [hz]))
      show (if ([43] : List UInt8) = [43] ∨ [43] = y then takesL l m else false) = _
      rw [if_pos (.inl rfl), this, List.length_cons, List.length_cons]
      by_cases e : l = m
      · subst e
        have : sameU (x :: l) (y :: l) 0 (l.length + 1) = true := by
          unfold sameU
          rw [List.all_eq_true]
          intro j hj
          cases j <;> simp
        rw [this]
        simp
      · rw [decide_eq_false e]
        by_cases h2 : m.length = l.length
        · rw [eq_comm, Bool.and_eq_false_iff]
          refine .inr ?_
          unfold sameU
          rw [List.all_eq_false]
          obtain ⟨j, hj⟩ : ∃ j, l[j]? ≠ m[j]? := Classical.byContradiction fun hn => e (List.ext_getElem? fun j => Classical.byContradiction fun hj => hn ⟨j, hj⟩)
          have hjl : j < l.length := by
            rcases Nat.lt_or_ge j l.length with h | h
            · exact h
            · exact absurd (by rw [List.getElem?_eq_none h, List.getElem?_eq_none (by omega)]) hj
          exact ⟨j + 1, by simp [hjl], by simp [hj]⟩
        · have : ¬ (m.length + 1 = l.length + 1) := by omega
          simp [this, h2]
  | x :: l, m, k + 1, hw, hk => by
    obtain ⟨x1, x2⟩ := free_ne (hw x (by simp))
    rw [List.set_cons_succ, takesL_eq, if_neg x2]
    cases m with
    | nil => simp
    | cons y m =>
      have ih := takesL_wide l m k (fun z hz => hw z (by simp [hz])) (by simpa using hk)
      show (if x = [43] ∨ x = y then takesL (l.set k [43]) m else false) = _
      rw [ih, List.length_cons, List.length_cons, sameU_shift]
      by_cases e : x = y
      · rw [if_pos (.inr e), decide_eq_true e]
        simp
      · rw [if_neg (by simp [x1, e]), decide_eq_false e]
        simp
theorem sameU_min (l m : List (List UInt8)) (k : Nat) (h : m.length = l.length) (n : Nat) (hn : n = min l.length m.length) : sameU l m k n = sameU l m k l.length := by rw [hn, h, Nat.min_self]
theorem wide_filter {a : List UInt8} (ha : nameL a = true) (k : Nat) (h : k < (lvls a).length) (hs : a.length ≤ 60000) : filterL (joinL ((lvls a).set k [43])) = true ∧ lvls (joinL ((lvls a).set k [43])) = (lvls a).set k [43] := by
  obtain ⟨a0, a1, a2⟩ := nameL_parts ha
  have hfree : ∀ x ∈ (lvls a).set k [43], (47 : UInt8) ∉ x := by
    intro x hx
    rcases List.mem_or_eq_of_mem_set hx with hx | rfl
    · exact lvls_free a x hx
    · decide
  have hne : (lvls a).set k [43] ≠ [] := by
    intro e
    have := congrArg List.length e
    simp at this
    obtain ⟨l, ls, e2⟩ := lvls_cons a
    rw [e2] at this
    cases this
  have hl := lvls_join _ hne hfree
  refine ⟨?_, hl⟩
  have ho : okU (joinL ((lvls a).set k [43])) = true := by
    rw [okU_join, List.all_eq_true]
    intro x hx
    rcases List.mem_or_eq_of_mem_set hx with hx | rfl
    · have := (textL_ok a1).1
      rw [okU_lvls, List.all_eq_true] at this
      exact this x hx
    · decide
  have hlen := joinL_set (lvls a) k
  rw [joinL_lvls] at hlen
  have h0 : joinL ((lvls a).set k [43]) ≠ [] := by
    intro e
    rw [e] at hl
    have h2 : ((lvls a).set k [43])[k]? = some [43] := by rw [List.getElem?_set_self h]
    rw [← hl] at h2
    cases k <;> simp [lvls] at h2
  unfold filterL
  rw [textL_of h0 ho (by omega), hl]
  unfold filtL
  rw [List.all_eq_true.2 ?_]
  · rfl
  · intro p hp
    obtain ⟨i, hi, e⟩ := List.getElem_of_mem hp
    have := lasts_get ((lvls a).set k [43]) i (by rw [← lasts_length]; exact hi)
    rw [List.getElem?_eq_getElem hi, e] at this
    injection this with this
    rw [this]
    have hm := List.getElem_mem (l := (lvls a).set k [43]) (n := i) (by rw [← lasts_length]; exact hi)
    rcases List.mem_or_eq_of_mem_set hm with hx | hx
    · exact mayS_plain (name_free a2 _ hx) _
    · show mayS _ _ = true
      rw [hx]
      rfl
theorem wide_match {a b : List UInt8} (ha : nameL a = true) (hb : nameL b = true) (k : Nat) (h : k < (lvls a).length) (hs : a.length ≤ 60000) :
    tkL (joinL ((lvls a).set k [43])) b = (decide ((lvls b).length = (lvls a).length) && !(decide (k = 0) && decide (b.head? = some 36)) && sameU (lvls a) (lvls b) k (min (lvls a).length (lvls b).length)) := by
  obtain ⟨a0, a1, a2⟩ := nameL_parts ha
  obtain ⟨h1, h2⟩ := wide_filter ha k h hs
  unfold tkL matchL
  rw [h1, hb, h2, takesL_wide _ _ _ (name_free a2) h]
  have hw : wildL ((joinL ((lvls a).set k [43])).take 1) = decide (k = 0) := by
    have ha' := joinL_lvls a
    obtain ⟨l, ls, e⟩ := lvls_cons a
    rw [e] at ha' ⊢
    cases k with
    | zero => cases ls <;> rfl
    | succ k =>
      rw [List.set_cons_succ]
      have wl : wildL l = false := name_free a2 l (by rw [e]; simp)
      cases l with
      | nil =>
        cases ls with
        | nil => rw [e] at h; simp at h
        | cons m ms => cases k <;> rfl
      | cons c cs =>
        have hwc := wild_take wl
        cases ls with
        | nil => rw [e] at h; simp at h
        | cons m ms => cases k <;> simpa [joinL] using hwc
  rw [hw]
  simp only [Bool.and_self, Bool.true_and]
  by_cases hl : (lvls b).length = (lvls a).length
  · rw [hl, Nat.min_self]
    by_cases hk : k = 0 <;> by_cases hd : b.head? = some 36 <;> simp [hk, hd]
  · simp [hl]

end Go.Proofs.YtfjafpbmgbnllaaGreat
