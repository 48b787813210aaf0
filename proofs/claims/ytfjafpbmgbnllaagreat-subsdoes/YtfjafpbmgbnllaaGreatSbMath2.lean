/-
  What is proved here: what is found in the index of layer 13: by rising texts, the greatest quality of each client; whatever the order of the entries. No condition.
-/
import Derived.Test.YtfjafpbmgbnllaaGreatSbMath
namespace Go.Proofs.YtfjafpbmgbnllaaGreat
set_option linter.unusedVariables false
set_option linter.unusedSimpArgs false
open Go.RowKit

theorem bl_irrefl : ∀ x : List UInt8, Op.bytesLess x x = false
  | [] => rfl
  | a :: x => by
    have := bl_irrefl x
    simp [Op.bytesLess, this]
theorem bl_trans : ∀ {x y z : List UInt8}, Op.bytesLess x y = true → Op.bytesLess y z = true → Op.bytesLess x z = true
  | x, [], z, h, _ => by cases x <;> cases h
  | x, y :: ys, [], _, h => by cases h
  | [], y :: ys, z :: zs, _, _ => rfl
  | a :: x, b :: y, c :: z, h, k => by
    simp only [Op.bytesLess, Bool.or_eq_true, Bool.and_eq_true, decide_eq_true_eq, beq_iff_eq] at h k ⊢
    rcases h with h | ⟨rfl, h⟩
    · rcases k with k | ⟨rfl, k⟩
      · exact Or.inl (UInt8.lt_trans h k)
      · exact Or.inl h
    · rcases k with k | ⟨rfl, k⟩
      · exact Or.inl k
      · exact Or.inr ⟨rfl, bl_trans h k⟩
theorem bl_tri : ∀ {x y : List UInt8}, Op.bytesLess x y = false → Op.bytesLess y x = false → x = y
  | [], [], _, _ => rfl
  | [], _ :: _, h, _ => by cases h
  | _ :: _, [], _, h => by cases h
  | a :: x, b :: y, h, k => by
    simp only [Op.bytesLess, Bool.or_eq_false_iff, Bool.and_eq_false_iff, decide_eq_false_iff_not] at h k
    have hab : a = b := by
      have h1 := h.1
      have k1 := k.1
      rw [UInt8.lt_iff_toNat_lt] at h1 k1
      exact UInt8.toNat_inj.1 (by omega)
    subst hab
    have h2 : Op.bytesLess x y = false := by simpa using h.2
    have k2 : Op.bytesLess y x = false := by simpa using k.2
    rw [bl_tri h2 k2]
theorem bl_ne {x y : List UInt8} (h : Op.bytesLess x y = true) : x ≠ y := fun e => by rw [e, bl_irrefl] at h; cases h
theorem bl_asym {x y : List UInt8} (h : Op.bytesLess x y = true) : Op.bytesLess y x = false := by
  cases k : Op.bytesLess y x with
  | false => rfl
  | true =>
    have := bl_trans h k
    rw [bl_irrefl] at this
    cases this

/-- By rising texts. -/
def Srt (l : List (List UInt8 × Int)) : Prop := l.Pairwise fun a b => Op.bytesLess a.1 b.1 = true
/-- What a row has for a text. -/
def lkp : List (List UInt8 × Int) → List UInt8 → Option Int
  | [], _ => none
  | s :: r, d => if s.1 = d then some s.2 else lkp r d
theorem lkp_none {l : List (List UInt8 × Int)} {d : List UInt8} (h : ∀ s ∈ l, s.1 ≠ d) : lkp l d = none := by
  induction l with
  | nil => rfl
  | cons a l ih =>
    show (if _ then _ else _) = _
    rw [if_neg (h a (by simp)), ih (fun s hs => h s (by simp [hs]))]
theorem srt_below {a : List UInt8 × Int} {r : List (List UInt8 × Int)} (h : Srt (a :: r)) {d : List UInt8} (hd : Op.bytesLess d a.1 = true) : ∀ s ∈ a :: r, s.1 ≠ d := by
  intro s hs e
  rcases List.mem_cons.1 hs with rfl | hs
  · exact bl_ne hd e.symm
  · have := bl_trans hd ((List.pairwise_cons.1 h).1 s hs)
    exact bl_ne this e.symm
theorem srt_tail {a : List UInt8 × Int} {r : List (List UInt8 × Int)} (h : Srt (a :: r)) : Srt r := (List.pairwise_cons.1 h).2
theorem srt_head {a : List UInt8 × Int} {r : List (List UInt8 × Int)} (h : Srt (a :: r)) : ∀ s ∈ r, s.1 ≠ a.1 := fun s hs e => bl_ne ((List.pairwise_cons.1 h).1 s hs) e.symm
theorem wantIn_key (c : List UInt8) (q : Int) : ∀ (o : List (List UInt8 × Int)) (s : List UInt8 × Int), s ∈ wantIn c q o → s.1 = c ∨ ∃ s' ∈ o, s'.1 = s.1
  | [], s, h => by
    simp [wantIn] at h
    exact Or.inl (by rw [h])
  | (d, p) :: r, s, h => by
    simp only [wantIn] at h
    split at h
    · rcases List.mem_cons.1 h with rfl | h
      · exact Or.inr ⟨_, by simp, rfl⟩
      · rcases wantIn_key c q r s h with h | ⟨s', h1, h2⟩
        · exact Or.inl h
        · exact Or.inr ⟨s', by simp [h1], h2⟩
    · split at h
      · rename_i hdc
        rcases List.mem_cons.1 h with rfl | h
        · exact Or.inl hdc
        · exact Or.inr ⟨s, by simp [h], rfl⟩
      · rcases List.mem_cons.1 h with rfl | h
        · exact Or.inl rfl
        · exact Or.inr ⟨s, h, rfl⟩
theorem wantIn_srt (c : List UInt8) (q : Int) : ∀ (o : List (List UInt8 × Int)), Srt o → Srt (wantIn c q o)
  | [], _ => by simp [wantIn, Srt]
  | (d, p) :: r, h => by
    simp only [wantIn]
    have hp := List.pairwise_cons.1 h
    split
    · rename_i hd
      refine List.pairwise_cons.2 ⟨fun s hs => ?_, wantIn_srt c q r hp.2⟩
      rcases wantIn_key c q r s hs with e | ⟨s', h1, h2⟩
      · rw [e]; exact hd
      · rw [← h2]; exact hp.1 s' h1
    · rename_i hd
      split
      · exact List.pairwise_cons.2 ⟨fun s hs => hp.1 s hs, hp.2⟩
      · rename_i hne
        have hcd : Op.bytesLess c d = true := by
          cases k : Op.bytesLess c d with
          | true => rfl
          | false => exact absurd (bl_tri (by simpa using hd) k) hne
        refine List.pairwise_cons.2 ⟨fun s hs => ?_, h⟩
        rcases List.mem_cons.1 hs with rfl | hs
        · exact hcd
        · exact bl_trans hcd (hp.1 s hs)
/-- The greater of what was there and q. -/
def gq (o : Option Int) (q : Int) : Option Int := match o with
  | none => some q
  | some p => some (max p q)
theorem wantIn_lkp (c : List UInt8) (q : Int) (d : List UInt8) : ∀ (o : List (List UInt8 × Int)), Srt o → lkp (wantIn c q o) d = if d = c then gq (lkp o c) q else lkp o d
  | [], _ => by
    simp only [wantIn, lkp]
    by_cases h : d = c
    · simp [h, gq]
    · rw [if_neg h, if_neg (fun e => h e.symm)]
  | (e, p) :: r, h => by
    simp only [wantIn]
    have ih := wantIn_lkp c q d r (srt_tail h)
    split
    · rename_i he
      have hne := bl_ne he
      show (if e = d then some p else lkp (wantIn c q r) d) = _
      rw [ih]
      by_cases hd : d = c
      · subst hd
        rw [if_neg hne, if_pos rfl, if_pos rfl]
        show _ = gq (if e = d then some p else lkp r d) q
        rw [if_neg hne]
      · rw [if_neg hd, if_neg hd]
        rfl
    · rename_i he
      split
      · rename_i hec
        subst hec
        show (if e = d then some (max p q) else lkp r d) = _
        by_cases hd : d = e
        · subst hd
          rw [if_pos rfl, if_pos rfl]
          show _ = gq (if d = d then some p else lkp r d) q
          rw [if_pos rfl]
          rfl
        · rw [if_neg (fun x => hd x.symm), if_neg hd]
          show _ = if e = d then some p else lkp r d
          rw [if_neg (fun x => hd x.symm)]
      · rename_i hne
        have hce : Op.bytesLess c e = true := by
          cases k : Op.bytesLess c e with
          | true => rfl
          | false => exact absurd (bl_tri (by simpa using he) k) hne
        show (if c = d then some q else lkp ((e, p) :: r) d) = _
        by_cases hd : d = c
        · subst hd
          rw [if_pos rfl, if_pos rfl, lkp_none (srt_below h hce)]
          rfl
        · rw [if_neg (fun x => hd x.symm), if_neg hd]
/-- Rows by rising texts that have the same for each text are the same. -/
theorem srt_ext : ∀ {l m : List (List UInt8 × Int)}, Srt l → Srt m → (∀ d, lkp l d = lkp m d) → l = m
  | [], [], _, _, _ => rfl
  | [], b :: m, _, _, h => by
    have := h b.1
    simp [lkp] at this
  | a :: l, [], _, _, h => by
    have := h a.1
    simp [lkp] at this
  | (a, p) :: l, (b, q) :: m, hl, hm, h => by
    have key : a = b := by
      have h1 := h a
      have h2 := h b
      cases k : Op.bytesLess a b with
      | true =>
        rw [lkp_none (srt_below hm k)] at h1
        simp [lkp] at h1
      | false =>
        cases k2 : Op.bytesLess b a with
        | true =>
          rw [lkp_none (srt_below hl k2)] at h2
          simp [lkp] at h2
        | false => exact bl_tri k k2
    subst key
    have hpq : p = q := by
      have := h a
      simpa [lkp] using this
    subst hpq
    rw [srt_ext (srt_tail hl) (srt_tail hm) (fun d => ?_)]
    by_cases hd : a = d
    · subst hd
      rw [lkp_none (srt_head hl), lkp_none (srt_head hm)]
    · have := h d
      simpa [lkp, hd] using this
/-- What is found for a client. -/
def bestS (n d : List UInt8) (o : Option Int) (e : SE) : Option Int := if matchL e.f n = true ∧ e.c = d then gq o e.q else o
def bestQ (es : List SE) (n d : List UInt8) : Option Int := es.foldl (bestS n d) none
theorem findE_all (n : List UInt8) : ∀ (es : List SE) (o : List (List UInt8 × Int)), Srt o → Srt (es.foldl (wantE n) o) ∧ ∀ d, lkp (es.foldl (wantE n) o) d = es.foldl (bestS n d) (lkp o d)
  | [], o, h => ⟨h, fun d => rfl⟩
  | e :: es, o, h => by
    have hs : Srt (wantE n o e) := by
      unfold wantE
      split
      · exact wantIn_srt _ _ _ h
      · exact h
    obtain ⟨h1, h2⟩ := findE_all n es (wantE n o e) hs
    refine ⟨h1, fun d => ?_⟩
    simp only [List.foldl_cons]
    rw [h2 d]
    congr 1
    unfold wantE bestS
    by_cases hm : matchL e.f n = true
    · rw [if_pos hm, wantIn_lkp _ _ _ _ h]
      by_cases hd : d = e.c
      · rw [if_pos hd, if_pos ⟨hm, hd.symm⟩, hd]
      · rw [if_neg hd, if_neg (fun x => hd x.2.symm)]
    · rw [if_neg hm, if_neg (fun x => hm x.1)]
theorem findE_srt (es : List SE) (n : List UInt8) : Srt (findE es n) := (findE_all n es [] (by simp [Srt])).1
theorem findE_lkp (es : List SE) (n d : List UInt8) : lkp (findE es n) d = bestQ es n d := (findE_all n es [] (by simp [Srt])).2 d
theorem gq_comm (o : Option Int) (a b : Int) : gq (gq o a) b = gq (gq o b) a := by
  cases o <;> simp only [gq, Option.some.injEq] <;> omega
theorem bestS_comm (n d : List UInt8) (o : Option Int) (a b : SE) : bestS n d (bestS n d o a) b = bestS n d (bestS n d o b) a := by
  unfold bestS
  by_cases h1 : matchL a.f n = true ∧ a.c = d <;> by_cases h2 : matchL b.f n = true ∧ b.c = d
  · simp only [if_pos h1, if_pos h2]; exact gq_comm _ _ _
  · simp only [if_pos h1, if_neg h2]
  · simp only [if_neg h1, if_pos h2]
  · simp only [if_neg h1, if_neg h2]
theorem bestQ_perm {es fs : List SE} (h : es.Perm fs) (n d : List UInt8) : bestQ es n d = bestQ fs n d := by
  have key : ∀ {es fs : List SE}, es.Perm fs → ∀ o, es.foldl (bestS n d) o = fs.foldl (bestS n d) o := by
    intro es fs h
    induction h with
    | nil => intro o; rfl
    | cons x _ ih => intro o; exact ih _
    | swap x y l => intro o; simp only [List.foldl_cons]; rw [bestS_comm]
    | trans _ _ ih1 ih2 => intro o; rw [ih1, ih2]
  exact key h none
theorem findE_perm {es fs : List SE} (h : es.Perm fs) (n : List UInt8) : findE es n = findE fs n :=
  srt_ext (findE_srt _ _) (findE_srt _ _) fun d => by rw [findE_lkp, findE_lkp, bestQ_perm h]
theorem dropE_any (es : List SE) (g : List UInt8) : dropE es g [] = es.filter fun e => !decide (e.c = g) := by
  unfold dropE keepE
  simp
theorem bestQ_drop (es : List SE) (n d g : List UInt8) : bestQ (dropE es g []) n d = if d = g then none else bestQ es n d := by
  rw [dropE_any]
  have key : ∀ (es : List SE) (o : Option Int), (d = g → o = none) → (es.filter fun e => !decide (e.c = g)).foldl (bestS n d) o = if d = g then none else es.foldl (bestS n d) o := by
    intro es
    induction es with
    | nil =>
      intro o ho
      by_cases hd : d = g
      · rw [if_pos hd]; exact ho hd
      · rw [if_neg hd]; rfl
    | cons e es ih =>
      intro o ho
      by_cases he : e.c = g
      · rw [List.filter_cons_of_neg (by simp [he]), ih o ho]
        by_cases hd : d = g
        · rw [if_pos hd, if_pos hd]
        · rw [if_neg hd, if_neg hd]
          simp only [List.foldl_cons]
          rw [show bestS n d o e = o from if_neg (fun x => hd (by rw [← x.2, he]))]
      · rw [List.filter_cons_of_pos (by simp [he])]
        simp only [List.foldl_cons]
        refine ih _ (fun hd => ?_)
        unfold bestS
        rw [if_neg (fun x => he (by rw [x.2, hd]))]
        exact ho hd
  exact key es none (fun _ => rfl)
theorem lkp_filter (g d : List UInt8) : ∀ l : List (List UInt8 × Int), lkp (l.filter fun s => !decide (s.1 = g)) d = if d = g then none else lkp l d
  | [] => by simp [lkp]
  | s :: l => by
    have ih := lkp_filter g d l
    by_cases hs : s.1 = g
    · rw [List.filter_cons_of_neg (by simp [hs]), ih]
      by_cases hd : d = g
      · rw [if_pos hd, if_pos hd]
      · rw [if_neg hd, if_neg hd]
        show _ = if s.1 = d then some s.2 else lkp l d
        rw [if_neg (fun x => hd (by rw [← x, hs]))]
    · rw [List.filter_cons_of_pos (by simp [hs])]
      show (if s.1 = d then some s.2 else _) = _
      rw [ih]
      by_cases hd : d = g
      · rw [if_pos hd, if_pos hd, if_neg (fun x => hs (by rw [x, hd]))]
      · rw [if_neg hd, if_neg hd]
        rfl
/-- What the others want is as it was when one is gone. -/
theorem findE_gone (es : List SE) (n g : List UInt8) : findE (dropE es g []) n = (findE es n).filter fun s => !decide (s.1 = g) :=
  srt_ext (findE_srt _ _) ((findE_srt es n).filter _) fun d => by rw [findE_lkp, lkp_filter, bestQ_drop, findE_lkp]

end Go.Proofs.YtfjafpbmgbnllaaGreat
