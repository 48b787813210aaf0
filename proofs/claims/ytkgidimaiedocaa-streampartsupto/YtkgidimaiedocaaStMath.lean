/-
  What is proved here (first: the text CutMath word for word, so that a claim has one file less; no text may import both): layer 11 as plain functions of lists: what comes next in a stream's bytes, that it hangs on the bytes from its beginning on, that a packet's bytes are told as itself, and that what is told has just these bytes. No condition of its own; nothing of the program is named. ALSO: what stream's size and first return. Condition: at most 65535 bytes. ALSO: packets in rows (PkRow, PRd), and what stream's cut returns: the packets, and what is left. Condition: at most 65535 bytes. ALSO: what stream's cut returns: the packets, and what is left. Condition: at most 65535 bytes. ALSO: a stream in memory (StA11), and what stream's New, Feed and Left return. Condition: at most 65535 bytes at a time. ALSO: the chapter's examples of layer 11, asked by 'awake', come out true in every world; StreamNil's walk. No condition. ALSO: what the document's Rows of layer 11 returns of two rows of packets (rows11_any). Condition: packets' lists and the rows are at most 65535 long. ALSO: what is told of bytes by layer 11, as plain functions: fed in two parts; what is told may be and has just these bytes; rows of packets carried on. No condition.
-/
import Derived.Test.YtkgidimaiedocaaBase
import Derived.Test.YtkgidimaiedocaaPkMath
import Derived.Test.YtkgidimaiedocaaPrMath
import Derived.Test.YtkgidimaiedocaaPr1
import Derived.Great.BuildSlice
import Derived.Test.YtkgidimaiedocaaSn10g
namespace Go.Proofs.Ytkgidimaiedocaa
set_option linter.unusedVariables false
set_option linter.unusedSimpArgs false
open Go.RowKit

/-- What comes next: nothing yet; it is broken; one of n bytes. -/
inductive Nx (α : Type) where
  | wait : Nx α
  | bad : Nx α
  | cut (a : α) (n : Nat) : Nx α

/-- What may be said of a 'next' that hangs on the bytes from its beginning on. -/
structure Cuts {α : Type} (nx : List UInt8 → Nx α) : Prop where
  nil : nx [] = .wait
  pos : ∀ b a n, nx b = .cut a n → 0 < n ∧ n ≤ b.length
  on : ∀ b y a n, nx b = .cut a n → nx (b ++ y) = .cut a n
  onBad : ∀ b y, nx b = .bad → nx (b ++ y) = .bad

def cutF {α : Type} (nx : List UInt8 → Nx α) : Nat → List UInt8 → List α × List UInt8 × Bool
  | 0, b => ([], b, false)
  | f + 1, b => match nx b with
    | .wait => ([], b, false)
    | .bad => ([], b, true)
    | .cut a n => (a :: (cutF nx f (b.drop n)).1, (cutF nx f (b.drop n)).2)
/-- All that is cut out of b, what is left, whether it is broken. -/
def cutAll {α : Type} (nx : List UInt8 → Nx α) (b : List UInt8) : List α × List UInt8 × Bool := cutF nx b.length b

section
variable {α : Type} {nx : List UInt8 → Nx α}
theorem cutF_fuel (h : Cuts nx) : ∀ (f : Nat) (b : List UInt8), b.length ≤ f → cutF nx f b = cutAll nx b := by
  intro f
  induction f using Nat.strongRecOn with
  | ind f ih =>
    intro b hb
    match f, b, hb, ih with
    | 0, [], _, _ => rfl
    | f + 1, [], _, _ =>
      show (match nx [] with | .wait => _ | .bad => _ | .cut a n => _) = _
      rw [h.nil]
      rfl
    | f + 1, x :: b, hb, ih =>
      show (match nx (x :: b) with | .wait => _ | .bad => _ | .cut a n => _) = (match nx (x :: b) with | .wait => _ | .bad => _ | .cut a n => _)
      match hn : nx (x :: b) with
      | .wait => rfl
      | .bad => rfl
      | .cut a n =>
        have hp := h.pos _ _ _ hn
        have hl : ((x :: b).drop n).length ≤ b.length := by simp only [List.length_drop, List.length_cons]; omega
        have hb' : b.length ≤ f := by simp only [List.length_cons] at hb; omega
        simp only []
        rw [ih f (Nat.lt_succ_self f) _ (Nat.le_trans hl hb')]
        rcases Nat.lt_or_ge b.length (f + 1) with hlt | hge
        · rw [ih b.length (by omega) _ hl]
        · omega
theorem cutAll_wait (b : List UInt8) (h0 : Cuts nx) (h : nx b = .wait) : cutAll nx b = ([], b, false) := by
  rw [← cutF_fuel h0 (b.length + 1) b (Nat.le_succ _)]
  show (match nx b with | .wait => _ | .bad => _ | .cut a n => _) = _
  rw [h]
theorem cutAll_bad (b : List UInt8) (h0 : Cuts nx) (h : nx b = .bad) : cutAll nx b = ([], b, true) := by
  rw [← cutF_fuel h0 (b.length + 1) b (Nat.le_succ _)]
  show (match nx b with | .wait => _ | .bad => _ | .cut a n => _) = _
  rw [h]
theorem cutAll_cut (b : List UInt8) (h0 : Cuts nx) (a : α) (n : Nat) (h : nx b = .cut a n) : cutAll nx b = (a :: (cutAll nx (b.drop n)).1, (cutAll nx (b.drop n)).2) := by
  rw [← cutF_fuel h0 (b.length + 1) b (Nat.le_succ _)]
  show (match nx b with | .wait => _ | .bad => _ | .cut a n => _) = _
  rw [h]
  simp only []
  rw [cutF_fuel h0 b.length (b.drop n) (by rw [List.length_drop]; omega)]
/-- Fed in two parts. -/
theorem cutAll_app (h0 : Cuts nx) : ∀ (k : Nat) (x y : List UInt8), x.length ≤ k → cutAll nx (x ++ y) =
    if (cutAll nx x).2.2 then ((cutAll nx x).1, (cutAll nx x).2.1 ++ y, true)
    else ((cutAll nx x).1 ++ (cutAll nx ((cutAll nx x).2.1 ++ y)).1, (cutAll nx ((cutAll nx x).2.1 ++ y)).2) := by
  intro k
  induction k using Nat.strongRecOn with
  | ind k ih =>
    intro x y hk
    match hn : nx x with
    | .wait =>
      rw [cutAll_wait x h0 hn]
      simp
    | .bad =>
      rw [cutAll_bad x h0 hn, cutAll_bad (x ++ y) h0 (h0.onBad x y hn)]
      simp
    | .cut a n =>
      have hp := h0.pos _ _ _ hn
      have hd : (x ++ y).drop n = x.drop n ++ y := by rw [List.drop_append_of_le_length hp.2]
      rw [cutAll_cut x h0 a n hn, cutAll_cut (x ++ y) h0 a n (h0.on x y a n hn), hd]
      have hl : (x.drop n).length < k := by rw [List.length_drop]; omega
      rw [ih (x.drop n).length hl (x.drop n) y (Nat.le_refl _)]
      simp only []
      split
      · rfl
      · rfl
theorem cutAll_parts (h0 : Cuts nx) (x y : List UInt8) : cutAll nx (x ++ y) =
    if (cutAll nx x).2.2 then ((cutAll nx x).1, (cutAll nx x).2.1 ++ y, true)
    else ((cutAll nx x).1 ++ (cutAll nx ((cutAll nx x).2.1 ++ y)).1, (cutAll nx ((cutAll nx x).2.1 ++ y)).2) := cutAll_app h0 x.length x y (Nat.le_refl _)
/-- What is left, if it is not broken, waits. -/
theorem cutAll_left (h0 : Cuts nx) : ∀ (k : Nat) (x : List UInt8), x.length ≤ k → (cutAll nx x).2.2 = false → nx (cutAll nx x).2.1 = .wait := by
  intro k
  induction k using Nat.strongRecOn with
  | ind k ih =>
    intro x hk hf
    match hn : nx x with
    | .wait =>
      rw [cutAll_wait x h0 hn]
      exact hn
    | .bad =>
      rw [cutAll_bad x h0 hn] at hf
      cases hf
    | .cut a n =>
      have hp := h0.pos _ _ _ hn
      rw [cutAll_cut x h0 a n hn] at hf ⊢
      have hl : (x.drop n).length < k := by rw [List.length_drop]; omega
      exact ih (x.drop n).length hl (x.drop n) (Nat.le_refl _) hf
end

end Go.Proofs.Ytkgidimaiedocaa

namespace Go.Proofs.Ytkgidimaiedocaa
set_option linter.unusedVariables false
set_option linter.unusedSimpArgs false
open Go.RowKit

theorem atV_app : ∀ (l z : List UInt8) (k n : Nat), (l ++ z).length + k ≤ 4 → (atV l k n).2.2 ≠ 7 → atV (l ++ z) k n = atV l k n
  | [], z, k, n, h, h7 => by
    unfold atV at h7
    by_cases hk : k < 4
    · rw [if_pos hk] at h7
      exact absurd rfl h7
    · have : z = [] := by
        apply List.eq_nil_of_length_eq_zero
        simp at h
        omega
      rw [this]
      rfl
  | c :: t, z, k, n, h, h7 => by
    rw [List.cons_append]
    by_cases hc : 128 ≤ c.toNat
    · rw [atV_on hc] at h7
      rw [atV_on hc, atV_on hc]
      exact atV_app t z (k + 1) _ (by simp at h ⊢; omega) h7
    · rw [atV, atV]
      simp only [if_neg hc]
theorem atV_err : ∀ (l : List UInt8) (k n : Nat), (atV l k n).2.2 = 0 ∨ (atV l k n).2.2 = 4 ∨ (atV l k n).2.2 = 7
  | [], k, n => by
    unfold atV
    by_cases hk : k < 4
    · rw [if_pos hk]; exact Or.inr (Or.inr rfl)
    · rw [if_neg hk]; exact Or.inr (Or.inl rfl)
  | c :: t, k, n => by
    by_cases hc : 128 ≤ c.toNat
    · rw [atV_on hc]; exact atV_err t _ _
    · rw [atV, if_neg hc]
      split
      · exact Or.inr (Or.inl rfl)
      · exact Or.inl rfl
theorem take_app4 (a y : List UInt8) : ∃ z, (a ++ y).take 4 = a.take 4 ++ z ∧ (a.take 4 ++ z).length ≤ 4 := by
  refine ⟨y.take (4 - a.length), by rw [List.take_append], ?_⟩
  simp only [List.length_append, List.length_take]
  omega
/-- Told so far, told for ever. -/
theorem atR_app (b y : List UInt8) (h7 : (atR b 1).2.2 ≠ 7) : atR (b ++ y) 1 = atR b 1 := by
  cases b with
  | nil => exact absurd rfl h7
  | cons c b =>
    unfold atR at h7 ⊢
    simp only [List.cons_append, List.drop_succ_cons, List.drop_zero] at h7 ⊢
    obtain ⟨z, hz, hl⟩ := take_app4 b y
    rw [hz, atV_app (b.take 4) z 0 0 (by simpa using hl) h7]
theorem atR_err (b : List UInt8) : (atR b 1).2.2 = 0 ∨ (atR b 1).2.2 = 4 ∨ (atR b 1).2.2 = 7 := atV_err _ _ _

/-- What comes next. -/
def stNx (most : Nat) (b : List UInt8) : Nx Pk :=
  if (atR b 1).2.2 = 4 then .bad
  else if (atR b 1).2.2 ≠ 0 then .wait
  else if most < (atR b 1).2.1 + (atR b 1).1 then .bad
  else if b.length < (atR b 1).2.1 + (atR b 1).1 then .wait
  else match readP (b.take ((atR b 1).2.1 + (atR b 1).1)) with
    | none => .bad
    | some p => .cut p ((atR b 1).2.1 + (atR b 1).1)
/-- What breaks it. -/
def stC (most : Nat) (b : List UInt8) : Int := if (atR b 1).2.2 = 4 then 100 else if most < (atR b 1).2.1 + (atR b 1).1 then 101 else 100

theorem stNx_or (most : Nat) (b : List UInt8) :
    ((atR b 1).2.2 = 4 ∧ stNx most b = .bad ∧ stC most b = 100) ∨
    ((atR b 1).2.2 = 7 ∧ stNx most b = .wait) ∨
    ((atR b 1).2.2 = 0 ∧ most < (atR b 1).2.1 + (atR b 1).1 ∧ stNx most b = .bad ∧ stC most b = 101) ∨
    ((atR b 1).2.2 = 0 ∧ ¬ most < (atR b 1).2.1 + (atR b 1).1 ∧ b.length < (atR b 1).2.1 + (atR b 1).1 ∧ stNx most b = .wait) ∨
    ((atR b 1).2.2 = 0 ∧ ¬ most < (atR b 1).2.1 + (atR b 1).1 ∧ ¬ b.length < (atR b 1).2.1 + (atR b 1).1 ∧ readP (b.take ((atR b 1).2.1 + (atR b 1).1)) = none ∧ stNx most b = .bad ∧ stC most b = 100) ∨
    ∃ p, (atR b 1).2.2 = 0 ∧ ¬ most < (atR b 1).2.1 + (atR b 1).1 ∧ ¬ b.length < (atR b 1).2.1 + (atR b 1).1 ∧ readP (b.take ((atR b 1).2.1 + (atR b 1).1)) = some p ∧ stNx most b = .cut p ((atR b 1).2.1 + (atR b 1).1) := by
  unfold stNx stC
  rcases atR_err b with h | h | h
  · rw [h]
    by_cases h1 : most < (atR b 1).2.1 + (atR b 1).1
    · exact Or.inr (Or.inr (Or.inl ⟨rfl, h1, by rw [if_neg (by omega), if_neg (by omega), if_pos h1], by rw [if_neg (by omega), if_pos h1]⟩))
    · by_cases h2 : b.length < (atR b 1).2.1 + (atR b 1).1
      · exact Or.inr (Or.inr (Or.inr (Or.inl ⟨rfl, h1, h2, by rw [if_neg (by omega), if_neg (by omega), if_neg h1, if_pos h2]⟩)))
      · cases hr : readP (b.take ((atR b 1).2.1 + (atR b 1).1)) with
        | none => exact Or.inr (Or.inr (Or.inr (Or.inr (Or.inl ⟨rfl, h1, h2, rfl, by rw [if_neg (by omega), if_neg (by omega), if_neg h1, if_neg h2], by rw [if_neg (by omega), if_neg h1]⟩))))
        | some p => exact Or.inr (Or.inr (Or.inr (Or.inr (Or.inr ⟨p, rfl, h1, h2, rfl, by rw [if_neg (by omega), if_neg (by omega), if_neg h1, if_neg h2]⟩))))
  · rw [h]
    exact Or.inl ⟨rfl, by rw [if_pos rfl], by rw [if_pos rfl]⟩
  · rw [h]
    exact Or.inr (Or.inl ⟨rfl, by rw [if_neg (by omega), if_pos (by omega)]⟩)
/-- What is told has just these bytes. -/
theorem stNx_back (most : Nat) (b : List UInt8) (p : Pk) (n : Nat) (h : stNx most b = .cut p n) : mayP p = true ∧ layP p = b.take n ∧ n ≤ most ∧ n ≤ b.length ∧ 2 ≤ n := by
  rcases stNx_or most b with ⟨_, e, _⟩ | ⟨_, e⟩ | ⟨_, _, e, _⟩ | ⟨_, _, _, e⟩ | ⟨_, _, _, _, e, _⟩ | ⟨q, h0, h1, h2, hr, e⟩
  all_goals rw [h] at e
  all_goals first
    | (cases e; done)
    | skip
  injection e with e1 e2
  subst e1 e2
  obtain ⟨a1, a2⟩ := readP_some hr
  obtain ⟨j, hj, _, _, hk, _⟩ := atR_putQ b 1 h0
  exact ⟨a1, a2, by omega, by omega, by omega⟩
theorem stCuts (most : Nat) : Cuts (stNx most) := by
  refine ⟨rfl, ?_, ?_, ?_⟩
  · intro b a n hn
    have := stNx_back most b a n hn
    omega
  · intro b y a n hn
    rcases stNx_or most b with ⟨_, e, _⟩ | ⟨_, e⟩ | ⟨_, _, e, _⟩ | ⟨_, _, _, e⟩ | ⟨_, _, _, _, e, _⟩ | ⟨q, h0, h1, h2, hr, e⟩
    all_goals rw [hn] at e
    all_goals first
      | (cases e; done)
      | skip
    have ha := atR_app b y (by omega)
    unfold stNx
    rw [ha, if_neg (by omega), if_neg (by omega), if_neg h1, if_neg (by rw [List.length_append]; omega), List.take_append_of_le_length (by omega), hr]
    exact e.symm
  · intro b y hn
    rcases stNx_or most b with ⟨h0, e, _⟩ | ⟨_, e⟩ | ⟨h0, h1, e, _⟩ | ⟨_, _, _, e⟩ | ⟨h0, h1, h2, hr, e, _⟩ | ⟨q, h0, h1, h2, hr, e⟩
    all_goals rw [hn] at e
    all_goals first
      | (cases e; done)
      | skip
    · have ha := atR_app b y (by omega)
      unfold stNx
      rw [ha, if_pos h0]
    · have ha := atR_app b y (by omega)
      unfold stNx
      rw [ha, if_neg (by omega), if_neg (by omega), if_pos h1]
    · have ha := atR_app b y (by omega)
      unfold stNx
      rw [ha, if_neg (by omega), if_neg (by omega), if_neg h1, if_neg (by rw [List.length_append]; omega), List.take_append_of_le_length (by omega), hr]
theorem stC_app (most : Nat) (b y : List UInt8) (h : stNx most b = .bad) : stC most (b ++ y) = stC most b := by
  have h7 : (atR b 1).2.2 ≠ 7 := by
    intro h7
    unfold stNx at h
    rw [if_neg (by omega), if_pos (by omega)] at h
    cases h
  unfold stC
  rw [atR_app b y h7]
theorem stC_or (most : Nat) (b : List UInt8) : stC most b = 100 ∨ stC most b = 101 := by
  unfold stC
  split
  · exact Or.inl rfl
  · split
    · exact Or.inr rfl
    · exact Or.inl rfl
/-- A packet's bytes are told as itself, whatever stands behind. -/
theorem stNx_lay (most : Nat) (p : Pk) (h : mayP p = true) (hm : (layP p).length ≤ most) (y : List UInt8) : stNx most (layP p ++ y) = .cut p (layP p).length := by
  have h4 := (mayP_parts h).2.2.2
  have ha := lay_at p h4 y
  have hl : 1 + (dg (bodyP p).length).length + (bodyP p).length = (layP p).length := lay_len.symm
  unfold stNx
  rw [ha, hl]
  simp only []
  rw [if_neg (by omega), if_neg (by omega), if_neg (by omega), if_neg (by rw [List.length_append]; omega), List.take_left' rfl, readP_lay h]

/-- What breaks what is cut is met at its rest. -/
theorem cutAll_badleft {α : Type} {nx : List UInt8 → Nx α} (h0 : Cuts nx) : ∀ (k : Nat) (x : List UInt8), x.length ≤ k → (cutAll nx x).2.2 = true → nx (cutAll nx x).2.1 = .bad := by
  intro k
  induction k using Nat.strongRecOn with
  | ind k ih =>
    intro x hk hf
    match hn : nx x with
    | .wait =>
      rw [cutAll_wait x h0 hn] at hf
      cases hf
    | .bad =>
      rw [cutAll_bad x h0 hn]
      exact hn
    | .cut a n =>
      have hp := h0.pos _ _ _ hn
      rw [cutAll_cut x h0 a n hn] at hf ⊢
      have hl : (x.drop n).length < k := by rw [List.length_drop]; omega
      exact ih (x.drop n).length hl (x.drop n) (Nat.le_refl _) hf
theorem cutAll_short {α : Type} {nx : List UInt8 → Nx α} (h0 : Cuts nx) : ∀ (k : Nat) (x : List UInt8), x.length ≤ k → (cutAll nx x).2.1.length + (cutAll nx x).1.length ≤ x.length := by
  intro k
  induction k using Nat.strongRecOn with
  | ind k ih =>
    intro x hk
    match hn : nx x with
    | .wait => rw [cutAll_wait x h0 hn]; exact Nat.le_refl _
    | .bad => rw [cutAll_bad x h0 hn]; exact Nat.le_refl _
    | .cut a n =>
      have hp := h0.pos _ _ _ hn
      rw [cutAll_cut x h0 a n hn]
      have hl : (x.drop n).length < k := by rw [List.length_drop]; omega
      have := ih (x.drop n).length hl (x.drop n) (Nat.le_refl _)
      rw [List.length_drop] at this
      show (cutAll nx (x.drop n)).2.1.length + ((cutAll nx (x.drop n)).1.length + 1) ≤ _
      omega

/-- What is told of bytes, whether they are broken, what is left, by what they are broken. -/
def toP (most : Nat) (xs : List UInt8) : List Pk := (cutAll (stNx most) xs).1
def brP (most : Nat) (xs : List UInt8) : Bool := (cutAll (stNx most) xs).2.2
def lfP (most : Nat) (xs : List UInt8) : List UInt8 := if brP most xs then [] else (cutAll (stNx most) xs).2.1
def erP (most : Nat) (xs : List UInt8) : Int := if brP most xs then stC most (cutAll (stNx most) xs).2.1 else 0
theorem erP_zero (most : Nat) (xs : List UInt8) : (erP most xs != 0) = brP most xs := by
  unfold erP
  cases brP most xs
  · rfl
  · rcases stC_or most (cutAll (stNx most) xs).2.1 with h | h <;> simp [h]
theorem lfP_len (most : Nat) (xs : List UInt8) : (lfP most xs).length + (toP most xs).length ≤ xs.length := by
  have := cutAll_short (stCuts most) _ xs (Nat.le_refl _)
  unfold lfP toP
  split
  · simp only [List.length_nil]; omega
  · exact this

end Go.Proofs.Ytkgidimaiedocaa

namespace Go.Proofs.Ytkgidimaiedocaa
set_option linter.unusedVariables false
set_option linter.unusedSimpArgs false
open Go.RowKit

theorem results_cell_tmp2 {P : Program} {fn : Func} {a b c : Tmp} {t : TypeId} (h : fn.results = #[.cell a t, .tmp b, .tmp c]) {tmps : Array Value} {w : World} {g : Nat} {bt : TypeId} {cs : List Value} (ha : tmps.getD a undef = .pointer (some ⟨g, 0, none⟩)) (hB : Blk w g bt cs)
    {d : TypeDesc} (hu : P.underlying t = some d) (hd : d.isRow = true) (hi : (P.info? t).map (·.size) = some cs.length) : (results fn tmps).run P w = .ok (.tuple #[.agg cs.toArray, tmps.getD b undef, tmps.getD c undef]) w := by
  rw [Array.getD_eq_getD_getElem?] at ha
  simp [results, h, ha, asAddr, run_loadVar_mid w g 0 t cs d hB.range hu hd hi]

/-- What size answers. -/
def szN11 (xs : List UInt8) : Nat := if (atR xs 1).2.2 = 0 then (atR xs 1).2.1 + (atR xs 1).1 else 0
def szE11 (xs : List UInt8) : Int := if (atR xs 1).2.2 = 4 then 100 else ((atR xs 1).2.2 : Nat)

theorem size11_any (A : Option Addr) (n k : Nat) (xs : List UInt8) (w : World) (hR : Rd w A n (bv xs)) (hx : xs.length = n) (hk : n ≤ k) (h65 : n ≤ 65535) : Calls Try.prog 86 #[.slice A n k] w fun e w' => e = .returned (.tuple #[.int .i64 (szN11 xs : Nat), .int .i64 (szE11 xs)]) ∧ Below w.heap.size w w' := by
  have P := vat_any A n k 1 xs w hR hk (by unfold maxLen; omega) hx
  have hN := hide (show szN11 xs = (if (atR xs 1).2.2 = 0 then (atR xs 1).2.1 + (atR xs 1).1 else 0) from rfl)
  have hE := hide (show szE11 xs = (if (atR xs 1).2.2 = 4 then 100 else (((atR xs 1).2.2 : Nat) : Int)) from rfl)
  have hb : (atR xs 1).2.2 = 0 → (atR xs 1).1 ≤ 268435455 ∧ (atR xs 1).2.1 ≤ 5 := fun h0 => by
    obtain ⟨j, _, h4, _, hk, hl⟩ := atR_putQ xs 1 h0
    omega
  have he := atR_err xs
  generalize szN11 xs = N at *
  generalize szE11 xs = E at *
  generalize (atR xs 1).1 = a at *
  generalize (atR xs 1).2.1 = b at *
  generalize (atR xs 1).2.2 = c at *
  clear hR hx
  go_enter Try.func86, Try.ntmps86
  go_wp2_with fail
  refine P.mono ?_
  rintro e w1 ⟨rfl, b1⟩
  have HB := hide b1
  have Hb := hide hb
  clear P b1 hb
  rcases he with rfl | rfl | rfl
  · have hab := Hb.out rfl
    have v1 : IntKind.i64.wrap ((b : Int) + (a : Int)) = ((b + a : Nat) : Int) := by rw [IntKind.wrap_i64]; omega
    go_wp2_with fail
    go_ret2
    have e1 : N = b + a := by have := hN.out; simpa using this
    have e2 : E = 0 := by have := hE.out; simpa using this
    subst e1 e2
    exact ⟨rfl, HB.out⟩
  · go_wp2_with fail
    go_ret2
    have e1 : N = 0 := by have := hN.out; simpa using this
    have e2 : E = 100 := by have := hE.out; simpa using this
    subst e1 e2
    exact ⟨rfl, HB.out⟩
  · go_wp2_with fail
    go_ret2
    have e1 : N = 0 := by have := hN.out; simpa using this
    have e2 : E = 7 := by have := hE.out; simpa using this
    subst e1 e2
    exact ⟨rfl, HB.out⟩

theorem Rd.upto' {w : World} {A : Option Addr} {n : Nat} {xs : List UInt8} (h : Rd w A n (bv xs)) (N : Nat) (hN : N ≤ n) : Rd w A N (bv (xs.take N)) := by
  have := h.upto N n hN (Nat.le_refl _)
  simpa using this
/-- What first answers: the packet, how many bytes it has, the error. -/
def FsPost (nx : Nx Pk) (sc : Int) (w : World) (e : Ending) (w' : World) : Prop := ∃ (p : Pk) (C : Option Addr) (nc kc : Nat) (S : Option Addr) (ns ks : Nat) (n : Nat) (er : Int),
  e = .returned (.tuple #[pkA p C nc kc S ns ks, .int .i64 (n : Nat), .int .i64 er]) ∧ PkM w' p C nc kc S ns ks ∧ NewAt w C ∧ NewAt w S ∧ Below w.heap.size w w' ∧
  match nx with
  | .wait => er = 7
  | .bad => er = sc
  | .cut q m => er = 0 ∧ p = q ∧ n = m
theorem zeroM (w : World) : PkM w (zeroP 0) none 0 0 none 0 0 := ⟨rfl, Nat.le_refl _, Rd.nil _ _, rfl, Nat.le_refl _, Rd.nil _ _⟩

set_option maxRecDepth 100000 in
set_option maxHeartbeats 4000000 in
theorem first11_any (A : Option Addr) (n k most : Nat) (xs : List UInt8) (w : World) (hR : Rd w A n (bv xs)) (hx : xs.length = n) (hk : n ≤ k) (h65 : n ≤ 65535) (hm : most ≤ 268435460) : Calls Try.prog 66 #[.slice A n k, .int .i64 (most : Nat)] w (FsPost (stNx most xs) (stC most xs) w) := by
  have P := hide fun W hW => size11_any A n k xs W hW hx hk h65
  have HR := hide (fun (W : World) (b : Below w.heap.size w W) => hR.keep b)
  have hor := stNx_or most xs
  obtain ⟨T, hT⟩ : ∃ T, atR xs 1 = T := ⟨_, rfl⟩
  have hj : (atR xs 1).2.2 = 0 → (atR xs 1).1 ≤ 268435455 ∧ (atR xs 1).2.1 ≤ 5 := fun h0 => by
    obtain ⟨j, _, h4, _, hk, hl⟩ := atR_putQ xs 1 h0
    omega
  unfold szN11 szE11 at P
  rw [hT] at P hor hj
  obtain ⟨a, b, c⟩ := T
  simp only at P hor hj
  generalize stNx most xs = nx at *
  generalize stC most xs = sc at *
  have Hx := hide hx
  clear hR hT hx
  go_enter Try.func66, Try.ntmps66
  go_upto_region 1 with fail
  generalize hW : w.alloc _ = W
  obtain ⟨g, hg, hB, bW, -⟩ := boxedP (p := zeroP 0) (C := none) (nc := 0) (kc := 0) (S := none) (ns := 0) (ks := 0) hW
  have bw : Below w.heap.size w W := by rw [hg]; exact bW
  have hgw : w.heap.size ≤ g := by omega
  rw [hg]
  have HB := hide hB
  have BW := hide bw
  have P := P.out W (HR.out W bw)
  clear hW hg hB bW bw
  have Hor := hide hor
  have Hj := hide hj
  clear hor hj
  go_wp2_with fail
  refine P.mono ?_
  rintro e w1 ⟨rfl, b1⟩
  have HB := hide (HB.out.keep b1)
  have BW := hide (below_on BW.out b1)
  clear b1 P
  rcases Hor.out with ⟨h0, e1, e2⟩ | ⟨h0, e1⟩ | ⟨h0, hlt, e1, e2⟩ | ⟨h0, hlt, hlx, e1⟩ | ⟨h0, hlt, hlx, hr, e1, e2⟩ | ⟨q, h0, hlt, hlx, hr, e1⟩
  · have Hn := hide e1
    have Hs := hide e2
    subst h0
    clear Hor Hj e1 e2
    go_upto_region 99 with (refine wpList_storeQ rfl 35 (.tmp 4) (.tmp 17) rfl g 35 (zeroP 0) none 0 0 none 0 0 (zeroP 0) none 0 0 none 0 0 rfl rfl HB.out (by kernel_rfl) ?_; intro V2 bV2 BV2)
    refine bodyPost_ret (results_cell_tmp2 rfl rfl bV2 Try.underlying35 rfl (by kernel_rfl)) rfl ?_
    refine ⟨zeroP 0, none, 0, 0, none, 0, 0, 0, _, rfl, zeroM _, NewAt.nil _, NewAt.nil _, But.below BW.out BV2 (fun i e => by omega) BW.out.size, ?_⟩
    rw [Hn.out]
    all_goals exact Hs.out.symm
  · have Hn := hide e1
    subst h0
    clear Hor Hj e1
    go_upto_region 99 with (refine wpList_storeQ rfl 35 (.tmp 4) (.tmp 17) rfl g 35 (zeroP 0) none 0 0 none 0 0 (zeroP 0) none 0 0 none 0 0 rfl rfl HB.out (by kernel_rfl) ?_; intro V2 bV2 BV2)
    refine bodyPost_ret (results_cell_tmp2 rfl rfl bV2 Try.underlying35 rfl (by kernel_rfl)) rfl ?_
    refine ⟨zeroP 0, none, 0, 0, none, 0, 0, 0, _, rfl, zeroM _, NewAt.nil _, NewAt.nil _, But.below BW.out BV2 (fun i e => by omega) BW.out.size, ?_⟩
    rw [Hn.out]
    all_goals exact rfl
  · have Hn := hide e1
    have Hs := hide e2
    subst h0
    have hab := Hj.out rfl
    have q1 : (most : Int) < ((b + a : Nat) : Int) := by omega
    clear Hor Hj e1 e2
    go_upto_region 99 with (refine wpList_storeQ rfl 35 (.tmp 4) (.tmp 22) rfl g 35 (zeroP 0) none 0 0 none 0 0 (zeroP 0) none 0 0 none 0 0 rfl rfl HB.out (by kernel_rfl) ?_; intro V2 bV2 BV2)
    refine bodyPost_ret (results_cell_tmp2 rfl rfl bV2 Try.underlying35 rfl (by kernel_rfl)) rfl ?_
    refine ⟨zeroP 0, none, 0, 0, none, 0, 0, 0, _, rfl, zeroM _, NewAt.nil _, NewAt.nil _, But.below BW.out BV2 (fun i e => by omega) BW.out.size, ?_⟩
    rw [Hn.out]
    all_goals exact Hs.out.symm
  · have Hn := hide e1
    subst h0
    have hab := Hj.out rfl
    have q1 : ¬ (most : Int) < ((b + a : Nat) : Int) := by omega
    have q2 : (n : Int) < ((b + a : Nat) : Int) := by have := Hx.out; omega
    clear Hor Hj e1
    go_upto_region 99 with (refine wpList_storeQ rfl 35 (.tmp 4) (.tmp 27) rfl g 35 (zeroP 0) none 0 0 none 0 0 (zeroP 0) none 0 0 none 0 0 rfl rfl HB.out (by kernel_rfl) ?_; intro V2 bV2 BV2)
    refine bodyPost_ret (results_cell_tmp2 rfl rfl bV2 Try.underlying35 rfl (by kernel_rfl)) rfl ?_
    refine ⟨zeroP 0, none, 0, 0, none, 0, 0, 0, _, rfl, zeroM _, NewAt.nil _, NewAt.nil _, But.below BW.out BV2 (fun i e => by omega) BW.out.size, ?_⟩
    rw [Hn.out]
    all_goals exact rfl
  · have Hn := hide e1
    have Hs := hide e2
    subst h0
    have hab := Hj.out rfl
    obtain ⟨N, hN⟩ : ∃ N, b + a = N := ⟨_, rfl⟩
    rw [hN] at hlt hlx hr
    have hNn : N ≤ n := by have := Hx.out; omega
    have PP := parse_any A N k (xs.take N) w1 ((HR.out w1 BW.out).upto' N hNn) (by rw [List.length_take]; have := Hx.out; omega) (by omega) (by omega)
    rw [hr] at PP
    have PP : Calls Try.prog 87 #[.slice A N k] w1 (fun e w' => e = .returned (.tuple #[pkA (zeroP 0) none 0 0 none 0 0, .int .i64 100]) ∧ Below w1.heap.size w1 w') := PP
    have hsl := fun W => run_slTo (P := Try.prog) 28 5 Try.underlying28 u8_size A n k (N : Int) N rfl (by omega) W
    have q1 : ¬ (most : Int) < (N : Int) := by omega
    have q2 : ¬ (n : Int) < (N : Int) := by omega
    rw [if_pos rfl, hN]
    clear Hor Hj e1 e2 hr hN
    go_wp2_with fail
    refine PP.mono ?_
    rintro e w2 ⟨rfl, b2⟩
    have HB := hide (HB.out.keep b2)
    have BW := hide (below_on BW.out b2)
    clear b2 PP
    go_upto_region 9 with (refine wpList_storeQ rfl 35 (.tmp 9) (.tmp 33) rfl w2.heap.size 35 (zeroP 0) none 0 0 none 0 0 (zeroP 0) none 0 0 none 0 0 rfl rfl (Blk.new w2 35 (pkVs (zeroP 0) none 0 0 none 0 0)) (by kernel_rfl) ?_; intro V bV BV)
    have bWV : Below w2.heap.size w2 V := But.below ((Below.refl _ _).alloc (Nat.le_refl _) _) BV (fun i e => by omega) (by simp)
    have HB := hide (HB.out.keep bWV)
    have BW := hide (below_on BW.out bWV)
    have HV := hide bV
    clear bV BV bWV
    go_upto_region 99 with (first
      | (refine wpList_loadP rfl 35 (.tmp 9) rfl w2.heap.size 35 (zeroP 0) none 0 0 none 0 0 rfl HV.out Try.underlying35 rfl (by kernel_rfl) ?_)
      | (refine wpList_storeQ rfl 35 (.tmp 4) (.tmp 35) rfl g 35 (zeroP 0) none 0 0 none 0 0 (zeroP 0) none 0 0 none 0 0 rfl rfl HB.out (by kernel_rfl) ?_; intro V2 bV2 BV2))
    refine bodyPost_ret (results_cell_tmp2 rfl rfl bV2 Try.underlying35 rfl (by kernel_rfl)) rfl ?_
    refine ⟨zeroP 0, none, 0, 0, none, 0, 0, N, 100, rfl, zeroM _, NewAt.nil _, NewAt.nil _, But.below BW.out BV2 (fun i e => by omega) BW.out.size, ?_⟩
    rw [Hn.out]
    exact Hs.out.symm
  · have Hn := hide e1
    subst h0
    have hab := Hj.out rfl
    obtain ⟨N, hN⟩ : ∃ N, b + a = N := ⟨_, rfl⟩
    rw [hN] at hlt hlx hr Hn
    have hNn : N ≤ n := by have := Hx.out; omega
    have PP := parse_any A N k (xs.take N) w1 ((HR.out w1 BW.out).upto' N hNn) (by rw [List.length_take]; have := Hx.out; omega) (by omega) (by omega)
    rw [hr] at PP
    have PP : Calls Try.prog 87 #[.slice A N k] w1 (fun e w' => ∃ C nc kc S ns ks, e = .returned (.tuple #[pkA q C nc kc S ns ks, .int .i64 0]) ∧ NewAt w1 C ∧ NewAt w1 S ∧ PkM w' q C nc kc S ns ks ∧ Below w1.heap.size w1 w') := PP
    have hsl := fun W => run_slTo (P := Try.prog) 28 5 Try.underlying28 u8_size A n k (N : Int) N rfl (by omega) W
    have q1 : ¬ (most : Int) < (N : Int) := by omega
    have q2 : ¬ (n : Int) < (N : Int) := by omega
    rw [if_pos rfl, hN]
    clear Hor Hj e1 hr hN
    go_wp2_with fail
    refine PP.mono ?_
    rintro e w2 ⟨C, nc, kc, S, ns, ks, rfl, hNC, hNS, hM, b2⟩
    have HC := hide (show Off (fun j => j = g) C from fun b o e h => by have h1 := hNC b o e; have h2 := HB.out.lt; have h3 : b = g := h; omega)
    have HSS := hide (show Off (fun j => j = g) S from fun b o e h => by have h1 := hNS b o e; have h2 := HB.out.lt; have h3 : b = g := h; omega)
    have HN := hide (And.intro (hNC.old BW.out.size) (hNS.old BW.out.size) : NewAt w C ∧ NewAt w S)
    have HB := hide (HB.out.keep b2)
    have BW := hide (below_on BW.out b2)
    have HM := hide hM
    clear b2 PP hM hNC hNS
    go_upto_region 9 with (refine wpList_storeQ rfl 35 (.tmp 9) (.tmp 33) rfl w2.heap.size 35 (zeroP 0) none 0 0 none 0 0 q C nc kc S ns ks rfl rfl (Blk.new w2 35 (pkVs (zeroP 0) none 0 0 none 0 0)) (by kernel_rfl) ?_; intro V bV BV)
    have bWV : Below w2.heap.size w2 V := But.below ((Below.refl _ _).alloc (Nat.le_refl _) _) BV (fun i e => by omega) (by simp)
    have HB := hide (HB.out.keep bWV)
    have BW := hide (below_on BW.out bWV)
    have HM := hide (HM.out.keep bWV)
    have HV := hide bV
    clear bV BV bWV
    go_upto_region 99 with (first
      | (refine wpList_loadP rfl 35 (.tmp 9) rfl w2.heap.size 35 q C nc kc S ns ks rfl HV.out Try.underlying35 rfl (by kernel_rfl) ?_)
      | (refine wpList_storeQ rfl 35 (.tmp 4) (.tmp 35) rfl g 35 (zeroP 0) none 0 0 none 0 0 q C nc kc S ns ks rfl rfl HB.out (by kernel_rfl) ?_; intro V2 bV2 BV2))
    refine bodyPost_ret (results_cell_tmp2 rfl rfl bV2 Try.underlying35 rfl (by kernel_rfl)) rfl ?_
    obtain ⟨m1, m2, m3, m4, m5, m6⟩ := HM.out
    refine ⟨q, C, nc, kc, S, ns, ks, N, 0, rfl, ⟨m1, m2, m3.but BV2 HC.out, m4, m5, m6.but BV2 HSS.out⟩, HN.out.1, HN.out.2, But.below BW.out BV2 (fun i e => by omega) BW.out.size, ?_⟩
    rw [Hn.out]
    exact ⟨rfl, rfl, rfl⟩

end Go.Proofs.Ytkgidimaiedocaa

namespace Go.Proofs.Ytkgidimaiedocaa
set_option linter.unusedVariables false
set_option linter.unusedSimpArgs false
open Go.RowKit

/-- A lies in C's block. -/
def InB11 (C A : Option Addr) : Prop := ∀ a, A = some a → ∃ a', C = some a' ∧ a'.block = a.block
theorem InB11.refl (C : Option Addr) : InB11 C C := fun a e => ⟨a, e, rfl⟩
theorem add_block11 (a : Addr) (j : Nat) : (a.add j).block = a.block := by
  unfold Addr.add
  by_cases h : j = 0 <;> simp [h]
theorem InB11.cut {C A : Option Addr} (h : InB11 C A) (lo k : Nat) : InB11 C (cutA A lo k) := by
  intro a e
  unfold cutA at e
  split at e
  · exact h a e
  · obtain ⟨a', e1, rfl⟩ := Option.map_eq_some_iff.1 e
    obtain ⟨c, f1, f2⟩ := h a' e1
    exact ⟨c, f1, by rw [f2, add_block11]⟩
def slLen11 : Value → Nat
  | .slice _ n _ => n
  | _ => 0
/-- The blocks of a slice. -/
def SoB (O : Option Addr) : Nat → Prop := fun i => ∃ o, O = some ⟨i, o, none⟩

/-- A packet in memory. -/
structure PkRow where
  p : Pk
  C : Option Addr
  nc : Nat
  kc : Nat
  S : Option Addr
  ns : Nat
  ks : Nat
def PkRow.vs (r : PkRow) : List Value := pkVs r.p r.C r.nc r.kc r.S r.ns r.ks
def PkRow.A (r : PkRow) : Value := pkA r.p r.C r.nc r.kc r.S r.ns r.ks
def PkRow.is (w : World) (r : PkRow) : Prop := PkM w r.p r.C r.nc r.kc r.S r.ns r.ks
def PkRow.off (T : Nat → Prop) (r : PkRow) : Prop := (0 < r.nc → Off T r.C) ∧ (0 < r.ns → Off T r.S)
def PkRow.new (w : World) (r : PkRow) : Prop := NewAt w r.C ∧ NewAt w r.S
def prVs (rs : List PkRow) : List Value := rs.flatMap PkRow.vs
theorem PkRow.vs_len (r : PkRow) : r.vs.length = 18 := rfl
theorem prVs_len (rs : List PkRow) : (prVs rs).length = rs.length * 18 := by
  induction rs with
  | nil => rfl
  | cons r rs ih =>
    rw [prVs, List.flatMap_cons, List.length_append, PkRow.vs_len, ← prVs, ih, List.length_cons]
    omega
theorem prVs_append (a b : List PkRow) : prVs (a ++ b) = prVs a ++ prVs b := List.flatMap_append
theorem prVs_snoc (a : List PkRow) (r : PkRow) : prVs (a ++ [r]) = prVs a ++ r.vs := by rw [prVs_append]; simp [prVs]
theorem prVs_get : ∀ (rs : List PkRow) (i j : Nat) (h : i < rs.length), j < 18 → (prVs rs)[i * 18 + j]? = (rs[i]).vs[j]?
  | [], _, _, h, _ => by simp at h
  | r :: rs, 0, j, _, hj => by
    rw [prVs, List.flatMap_cons, List.getElem?_append_left (by rw [PkRow.vs_len]; omega)]
    simp
  | r :: rs, i + 1, j, h, hj => by
    have := prVs_get rs i j (by simpa using h) hj
    rw [prVs, List.flatMap_cons, List.getElem?_append_right (by rw [PkRow.vs_len]; omega), PkRow.vs_len, ← prVs, show (i + 1) * 18 + j - 18 = i * 18 + j by omega, this]
    simp
theorem PkRow.one (r : PkRow) : ∀ u ∈ r.vs, u.oneCell' = true := by
  intro u hu
  simp [PkRow.vs, pkVs] at hu
  rcases hu with rfl | rfl | rfl | rfl | rfl | rfl | rfl | rfl | rfl | rfl | rfl | rfl | rfl | rfl | rfl | rfl | rfl | rfl <;> rfl
theorem PkRow.is.keep {w w' : World} {r : PkRow} (h : r.is w) (b : Below w.heap.size w w') : r.is w' := PkM.keep h b
theorem PkRow.is.but {T : Nat → Prop} {w w' : World} {r : PkRow} (h : r.is w) (b : But T w w') (o : r.off T) : r.is w' := by
  obtain ⟨m1, m2, m3, m4, m5, m6⟩ := h
  refine ⟨m1, m2, ⟨m3.1, fun hn => (m3.but b (o.1 hn)).2 hn⟩, m4, m5, ⟨m6.1, fun hn => (m6.but b (o.2 (by omega))).2 hn⟩⟩
theorem PkRow.is.low {w : World} {r : PkRow} (h : r.is w) {T : Nat → Prop} (hT : ∀ i, T i → w.heap.size ≤ i) : r.off T := by
  obtain ⟨m1, m2, m3, m4, m5, m6⟩ := h
  constructor
  · intro hn b o e ht
    obtain ⟨b', o', e', hl, -⟩ := m3.at_ hn
    rw [e] at e'
    injection e' with e'
    injection e' with e1
    have := hT b ht
    omega
  · intro hn b o e ht
    obtain ⟨b', o', e', hl, -⟩ := m6.at_ (k := 0) (by omega)
    rw [e] at e'
    injection e' with e'
    injection e' with e1
    have := hT b ht
    omega
theorem PkRow.new.high {w : World} {r : PkRow} (h : r.new w) {T : Nat → Prop} (hT : ∀ i, T i → i < w.heap.size) : r.off T :=
  ⟨fun _ b o e ht => by have := h.1 b o e; have := hT b ht; omega, fun _ b o e ht => by have := h.2 b o e; have := hT b ht; omega⟩
theorem PkRow.new.old {w w' : World} {r : PkRow} (h : r.new w') (hs : w.heap.size ≤ w'.heap.size) : r.new w := ⟨h.1.old hs, h.2.old hs⟩
/-- A row of packets reads so. -/
def PRd (w : World) (O : Option Addr) (rs : List PkRow) : Prop := Rd w O (rs.length * 18) (prVs rs) ∧ ∀ r ∈ rs, r.is w
theorem PRd.keep {w w' : World} {O : Option Addr} {rs : List PkRow} (h : PRd w O rs) (b : Below w.heap.size w w') : PRd w' O rs := ⟨h.1.keep b, fun r hr => (h.2 r hr).keep b⟩
theorem PRd.nil (w : World) : PRd w none [] := ⟨Rd.nil _ _, fun _ h => by cases h⟩
theorem pkt_info : (Try.prog.info? 35).map (fun i => (i.zero, i.size, i.bytes)) = some (some (pkA (zeroP 0) none 0 0 none 0 0), 18, 200) := by kernel_rfl

/-- What the loop keeps. -/
structure CutSt11 (most : Nat) (C : Option Addr) (n c : Nat) (xs : List UInt8) (w : World) (D : Option Addr) (dn dk : Nat) (ys : List UInt8) (O : Option Addr) (ok : Nat) (rs : List PkRow) (wr : World) : Prop where
  cap : dn ≤ dk
  rd : Rd w D dn (bv ys)
  inb : InB11 C D
  told : toP most xs = rs.map PkRow.p ++ toP most ys
  rest : (cutAll (stNx most) xs).2 = (cutAll (stNx most) ys).2
  rows : ∀ r ∈ rs, r.is wr ∧ r.new w ∧ r.off (SoB O)
  own : wr.ownsRow w.heap.size 35 18 (.slice O rs.length ok) rs.length (prVs rs)
  few : rs.length + dn ≤ n
  first : rs = [] → D = C ∧ dn = n ∧ dk = c
  bel : Below w.heap.size w wr
section
variable {most : Nat} {C : Option Addr} {n c : Nat} {xs : List UInt8} {w : World} {D : Option Addr} {dn dk : Nat} {ys : List UInt8} {O : Option Addr} {ok : Nat} {rs : List PkRow} {wr : World}
theorem CutSt11.len (h : CutSt11 most C n c xs w D dn dk ys O ok rs wr) : ys.length = dn := by rw [← bv_length]; exact h.rd.1
theorem CutSt11.prd (h : CutSt11 most C n c xs w D dn dk ys O ok rs wr) {w' : World} (b : Below wr.heap.size wr w') : PRd w' O rs :=
  ⟨(ownS_rd h.own).keep b, fun r hr => (h.rows r hr).1.keep b⟩
theorem CutSt11.new (h : CutSt11 most C n c xs w D dn dk ys O ok rs wr) : NewAt w O := fun b o e => ownS_new h.own b o e
/-- One packet more. -/
theorem CutSt11.step (h : CutSt11 most C n c xs w D dn dk ys O ok rs wr) (r : PkRow) (N : Nat) (hn : stNx most ys = .cut r.p N) (w3 : World) (b3 : Below wr.heap.size wr w3) (hr : r.is w3) (hrn : r.new wr) (O' : Option Addr) (ok' : Nat) (w' : World)
    (own' : w'.ownsRow w.heap.size 35 18 (.slice O' (rs.length + 1) ok') (rs.length + 1) (prVs rs ++ r.vs)) (b4 : But (SoB O) w3 w') (h4 : O' = O ∨ NewAt w3 O') :
    CutSt11 most C n c xs w (cutA D N dk) (dn - N) (dk - N) (ys.drop N) O' ok' (rs ++ [r]) w' := by
  have hl := h.len
  have hp := (stCuts most).pos _ _ _ hn
  have hcut := cutAll_cut ys (stCuts most) r.p N hn
  have hOlt : ∀ i, SoB O i → i < wr.heap.size := fun i ⟨o, e⟩ => ownS_lt h.own i o e
  have hOnew : ∀ i, SoB O i → w.heap.size ≤ i := fun i ⟨o, e⟩ => ownS_new h.own i o e
  refine ⟨?_, ?_, h.inb.cut _ _, ?_, ?_, ?_, ?_, ?_, ?_, ?_⟩
  · have := h.cap; omega
  · rw [← bv_drop]
    exact h.rd.tail N dk (by omega) h.cap
  · rw [h.told]
    unfold toP
    rw [hcut, List.map_append, List.append_assoc]
    rfl
  · rw [h.rest, hcut]
  · intro q hq
    rw [List.mem_append] at hq
    rcases hq with hq | hq
    · obtain ⟨a1, a2, a3⟩ := h.rows q hq
      refine ⟨(a1.keep b3).but b4 a3, a2, ?_⟩
      rcases h4 with rfl | h4
      · exact a3
      · exact a1.low fun i ⟨o, e⟩ => Nat.le_trans b3.size (h4 i o e)
    · simp at hq
      subst hq
      refine ⟨hr.but b4 (hrn.high hOlt), hrn.old h.bel.size, ?_⟩
      rcases h4 with rfl | h4
      · exact hrn.high hOlt
      · exact hr.low fun i ⟨o, e⟩ => h4 i o e
  · rw [prVs_snoc, List.length_append]
    exact own'
  · have := h.few
    rw [List.length_append]
    show rs.length + 1 + (dn - N) ≤ n
    omega
  · intro e
    simp at e
  · exact But.below (below_on h.bel b3) b4 hOnew (Nat.le_trans h.bel.size b3.size)
theorem CutSt11.wait (h : CutSt11 most C n c xs w D dn dk ys O ok rs wr) (hn : stNx most ys = .wait) : rs.map PkRow.p = toP most xs ∧ lfP most xs = ys ∧ erP most xs = 0 ∧ brP most xs = false := by
  have hc := cutAll_wait ys (stCuts most) hn
  have h1 := h.told
  have h2 := h.rest
  rw [hc] at h2
  have hb : brP most xs = false := by unfold brP; rw [h2]
  unfold toP at h1 ⊢
  rw [hc] at h1
  refine ⟨by rw [h1, List.append_nil], ?_, ?_, hb⟩
  · unfold lfP
    rw [hb, h2]
    rfl
  · unfold erP
    rw [hb]
    rfl
theorem CutSt11.bad (h : CutSt11 most C n c xs w D dn dk ys O ok rs wr) (hn : stNx most ys = .bad) : rs.map PkRow.p = toP most xs ∧ lfP most xs = [] ∧ erP most xs = stC most ys ∧ brP most xs = true := by
  have hc := cutAll_bad ys (stCuts most) hn
  have h1 := h.told
  have h2 := h.rest
  rw [hc] at h2
  have hb : brP most xs = true := by unfold brP; rw [h2]
  unfold toP at h1 ⊢
  rw [hc] at h1
  refine ⟨by rw [h1, List.append_nil], ?_, ?_, hb⟩
  · unfold lfP
    rw [hb]
    rfl
  · unfold erP
    rw [hb, h2]
    rfl
end

end Go.Proofs.Ytkgidimaiedocaa

namespace Go.Proofs.Ytkgidimaiedocaa
set_option linter.unusedVariables false
set_option linter.unusedSimpArgs false
open Go.RowKit

/-- A slice of one whole row. -/
theorem wpList_bs1 {P : Program} {w : World} {ops : Array Oper} {rest : List Oper} {o : Oper} {a : Act} {Q : Exit → Act → World → Prop} (hgd : o.guard = none) (t e : TypeId) (x : Operand) (ho : o.op = .buildSlice t 1 #[(0, x)])
    (hu : P.underlying t = some (.slice e)) (s : Nat) (hs0 : 0 < s) (hs : s ≤ 16777216) (hinfo : (P.info? e).map (fun i => (i.size, i.zero.isSome)) = some (s, true)) (cs : Array Value) (hcs : cs.size = s) (hx : a.eval x = .agg cs)
    (h : wpList P ops Q rest (a.put o.dst (.slice (some ⟨w.heap.size, 0, none⟩) 1 1)) (w.alloc (.cells cs e))) : wpList P ops Q (o :: rest) a w := by
  cases hie : P.info? e with
  | none => rw [hie] at hinfo; cases hinfo
  | some ie =>
    simp only [hie, Option.map_some, Option.some.injEq, Prod.mk.injEq] at hinfo
    obtain ⟨h1, h2⟩ := hinfo
    obtain ⟨z, hz⟩ := Option.isSome_iff_exists.1 h2
    refine wpList_buildSlice hgd t e 1 #[(0, x)] ho cs ie z hu hie hz (by rw [h1]; omega) (by rw [h1]; omega) ?_ h
    have hw := Great.fill_whole (s := ie.size) (by omega) [Value.agg cs] ((Array.range (1 * ie.size)).map (z.cells[· % z.cells.size]!)) (by intro v hv; simp at hv; subst hv; show cs.size = _; omega) (by simp)
    have e1 : ([Value.agg cs].flatMap fun v => v.cells.toList).toArray = cs := by simp [Value.cells]
    rw [e1] at hw
    rw [← hw]
    congr 1
    simp [hx]
/-- What cut answers. -/
def RetCut11 (most : Nat) (C : Option Addr) (n c : Nat) (xs : List UInt8) (w : World) (e : Ending) (w' : World) : Prop :=
  ∃ O ok rs D dn dk, e = .returned (.tuple #[.slice O rs.length ok, .slice D dn dk, .int .i64 (erP most xs)]) ∧ rs.map PkRow.p = toP most xs ∧ PRd w' O rs ∧ NewAt w O ∧ (∀ r ∈ rs, r.new w) ∧ dn = (lfP most xs).length ∧ dn ≤ dk ∧ InB11 C D ∧ Rd w' D dn (bv (lfP most xs)) ∧ (rs = [] → brP most xs = false → D = C ∧ dn = n ∧ dk = c) ∧ (brP most xs = true → D = none ∧ dn = 0 ∧ dk = 0) ∧ Below w.heap.size w w'

set_option maxRecDepth 100000 in
set_option maxHeartbeats 4000000 in
theorem cut11_any (most : Nat) (hm : most ≤ 268435460) (C : Option Addr) (n c : Nat) (xs : List UInt8) (w : World) (hr : Rd w C n (bv xs)) (hc : n ≤ c) (hn : n ≤ 65535) :
    Calls Try.prog 39 #[.slice C n c, .int .i64 (most : Nat)] w (RetCut11 most C n c xs w) := by
  go_enter Try.func39, Try.ntmps39
  go_wp2
  go_loopw [0, 7] (fun v tv wr => ∃ D dn dk ys O ok rs, v = .slice D dn dk ∧ tv = .slice O (List.length rs) ok ∧ CutSt11 most C n c xs w D dn dk ys O ok rs wr) (fun v _ _ => slLen11 v)
  case atStart => exact ⟨C, n, c, xs, none, 0, [], rfl, rfl, ⟨hc, hr, InB11.refl _, rfl, rfl, by simp, World.ownsRow_nil _ _ _ _, by simp, fun _ => ⟨rfl, rfl, rfl⟩, Below.refl _ _⟩⟩
  case round =>
    obtain ⟨D, dn, dk, ys, O, ok, rs, rfl, rfl, st⟩ := hrel
    have hl := st.len
    have hcap := st.cap
    have hfew := st.few
    have HZ := first11_any D dn dk most ys wr (st.rd.keep st.bel) hl hcap (by omega) hm
    have St := hide st
    clear hr st
    unfold FsPost at HZ
    cases hnx : stNx most ys with
    | wait =>
      rw [hnx] at HZ
      obtain ⟨f1, f2, f3, f4⟩ := St.out.wait hnx
      have F1 := hide f1
      have F2 := hide f2
      have F3 := hide f3
      have F4 := hide f4
      have Hl := hide hl
      clear hnx f1 f2 f3 f4 hl
      go_wp2_with fail
      refine HZ.mono ?_
      rintro e w1 ⟨p, C1, nc, kc, S1, ns, ks, m, er, rfl, -, -, -, b1, rfl⟩
      have B1 := hide b1
      clear HZ b1
      go_upto_region 3 with (refine wpList_storeQ rfl 35 (.tmp 8) (.tmp 15) rfl w1.heap.size 35 (zeroP 0) none 0 0 none 0 0 p C1 nc kc S1 ns ks rfl rfl (Blk.new w1 35 (pkVs (zeroP 0) none 0 0 none 0 0)) (by kernel_rfl) ?_; intro V bV BV)
      have bWV : Below w1.heap.size w1 V := But.below ((Below.refl _ _).alloc (Nat.le_refl _) _) BV (fun i e => by omega) (by simp)
      have B1 := hide (below_on B1.out bWV)
      clear bV BV bWV
      go_wp2_with fail
      go_ret3
      refine ⟨O, ok, rs, D, dn, dk, ?_, F1.out, St.out.prd B1.out, St.out.new, fun r hr => (St.out.rows r hr).2.1, ?_, hcap, St.out.inb, ?_, fun e _ => St.out.first e, ?_, below_on St.out.bel B1.out⟩
      · rw [F3.out]
        rfl
      · rw [F2.out, Hl.out]
      · rw [F2.out]
        exact St.out.rd.keep (below_on St.out.bel B1.out)
      · intro e
        rw [F4.out] at e
        cases e
    | bad =>
      rw [hnx] at HZ
      obtain ⟨f1, f2, f3, f4⟩ := St.out.bad hnx
      have F1 := hide f1
      have F2 := hide f2
      have F3 := hide f3
      have F4 := hide f4
      have hor := stC_or most ys
      generalize stC most ys = sc at *
      clear hnx f1 f2 f3 f4 hl
      go_wp2_with fail
      refine HZ.mono ?_
      rintro e w1 ⟨p, C1, nc, kc, S1, ns, ks, m, er, rfl, -, -, -, b1, he⟩
      have he : er = sc := he
      subst he
      have B1 := hide b1
      clear HZ b1
      go_upto_region 3 with (refine wpList_storeQ rfl 35 (.tmp 8) (.tmp 15) rfl w1.heap.size 35 (zeroP 0) none 0 0 none 0 0 p C1 nc kc S1 ns ks rfl rfl (Blk.new w1 35 (pkVs (zeroP 0) none 0 0 none 0 0)) (by kernel_rfl) ?_; intro V bV BV)
      have bWV : Below w1.heap.size w1 V := But.below ((Below.refl _ _).alloc (Nat.le_refl _) _) BV (fun i e => by omega) (by simp)
      have B1 := hide (below_on B1.out bWV)
      clear bV BV bWV
      rcases hor with rfl | rfl
      · skip
        go_wp2_with fail
        go_ret3
        refine ⟨O, ok, rs, none, 0, 0, ?_, F1.out, St.out.prd B1.out, St.out.new, fun r hr => (St.out.rows r hr).2.1, ?_, Nat.le_refl _, (fun a e => by cases e), ?_, ?_, fun _ => ⟨rfl, rfl, rfl⟩, below_on St.out.bel B1.out⟩
        · rw [F3.out]
          rfl
        · rw [F2.out]
          rfl
        · rw [F2.out]
          exact Rd.nil _ _
        · intro _ e
          rw [F4.out] at e
          cases e
      · skip
        go_wp2_with fail
        go_ret3
        refine ⟨O, ok, rs, none, 0, 0, ?_, F1.out, St.out.prd B1.out, St.out.new, fun r hr => (St.out.rows r hr).2.1, ?_, Nat.le_refl _, (fun a e => by cases e), ?_, ?_, fun _ => ⟨rfl, rfl, rfl⟩, below_on St.out.bel B1.out⟩
        · rw [F3.out]
          rfl
        · rw [F2.out]
          rfl
        · rw [F2.out]
          exact Rd.nil _ _
        · intro _ e
          rw [F4.out] at e
          cases e
    | cut a N =>
      rw [hnx] at HZ
      have hp := (stCuts most).pos _ _ _ hnx
      have hsl2 := fun W => run_slTail (P := Try.prog) 28 5 Try.underlying28 u8_size D dn dk (N : Int) N rfl (by omega) W
      have HN := hide hnx
      have hN : N ≤ dn := by omega
      have hN0 : 0 < N := hp.1
      clear hnx hl hp
      go_wp2_with fail
      refine HZ.mono ?_
      rintro e w1 ⟨p, C1, nc, kc, S1, ns, ks, m, er, rfl, hM, hNC, hNS, b1, rfl, rfl, rfl⟩
      have B1 := hide b1
      have HM := hide hM
      have HNN := hide (And.intro hNC hNS)
      clear HZ b1 hM hNC hNS
      go_upto_region 3 with (refine wpList_storeQ rfl 35 (.tmp 8) (.tmp 15) rfl w1.heap.size 35 (zeroP 0) none 0 0 none 0 0 p C1 nc kc S1 ns ks rfl rfl (Blk.new w1 35 (pkVs (zeroP 0) none 0 0 none 0 0)) (by kernel_rfl) ?_; intro V bV BV)
      have bWV : Below w1.heap.size w1 V := But.below ((Below.refl _ _).alloc (Nat.le_refl _) _) BV (fun i e => by omega) (by simp)
      have B1 := hide (below_on B1.out bWV)
      have HM := hide (HM.out.keep bWV)
      have HV := hide bV
      obtain ⟨h, hh⟩ : ∃ h, w1.heap.size = h := ⟨_, rfl⟩
      rw [hh] at HV ⊢
      clear bV BV bWV hh
      have O2 := hide (ownS_keep St.out.own B1.out)
      have HS := hide (fun w3 b3 hr3 hrn O' ok' w' => St.out.step ⟨p, C1, nc, kc, S1, ns, ks⟩ m HN.out w3 b3 hr3 hrn O' ok' w')
      have hbw : w.heap.size ≤ V.heap.size := Nat.le_trans St.out.bel.size B1.out.size
      have hrs : rs.length ≤ 65535 := by omega
      go_wp2_with (first
        | (refine wpList_loadP rfl 35 (.tmp 8) rfl h 35 p C1 nc kc S1 ns ks rfl HV.out Try.underlying35 rfl (by kernel_rfl) ?_)
        | (refine wpList_bs1 rfl 22 35 (.tmp 27) rfl Try.underlying22 18 (by omega) (by omega) (by kernel_rfl) (arr (PkRow.vs ⟨p, C1, nc, kc, S1, ns, ks⟩)) rfl rfl ?_)
        | (at_builtin; refine wpList_appS rfl (.tmp 26) (.tmp 28) 22 rfl 35 _ 18 200 Try.underlying22 pkt_info rfl (by omega) w.heap.size O rs.length ok (prVs rs) rfl (ownS_keep O2.out ((Below.refl _ _).alloc (Nat.le_refl _) _)) _ 1 1 (PkRow.vs ⟨p, C1, nc, kc, S1, ns, ks⟩) rfl ((Blk.new V 35 (PkRow.vs ⟨p, C1, nc, kc, S1, ns, ks⟩)).rd) (PkRow.one _) (by unfold maxLen; omega) (by omega) (Nat.le_trans hbw (by simp)) ?_; intro A4 c4 w4 o4 b4 h4))
      have bal : Below wr.heap.size wr (V.alloc (.cells (arr (PkRow.vs ⟨p, C1, nc, kc, S1, ns, ks⟩)) 35)) := below_on B1.out ((Below.refl _ _).alloc (Nat.le_refl _) _)
      have st4 := HS.out _ bal (PkM.keep HM.out ((Below.refl _ _).alloc (Nat.le_refl _) _)) HNN.out A4 c4 w4 o4 b4 h4
      exact ⟨⟨_, _, _, _, _, _, _, rfl, by rw [List.length_append]; rfl, st4⟩, by simp only [slLen11]; omega⟩

end Go.Proofs.Ytkgidimaiedocaa

namespace Go.Proofs.Ytkgidimaiedocaa
set_option linter.unusedVariables false
set_option linter.unusedSimpArgs false
open Go.RowKit

theorem wpList_appM {P : Program} {w : World} {ops : Array Oper} {rest : List Oper} {o : Oper} {a : Act} {Q : Exit → Act → World → Prop} (hgd : o.guard = none) (s x : Operand) (t : TypeId)
    (ho : o.op = .call { callee := .builtin .append, args := #[s, x], argTypes := #[t, t] })
    (e : TypeId) (z : Value) (bytes : Nat) (ht : P.underlying t = some (.slice e)) (hinfo : (P.info? e).map (fun i => (i.zero, i.size, i.bytes)) = some (some z, 1, bytes)) (hz1 : z.cells = #[z])
    (base : Nat) (A : Option Addr) (n c : Nat) (xs : List Value) (hs : a.eval s = .slice A n c) (hown : w.ownsRow base e 1 (.slice A n c) n xs)
    (B : Option Addr) (m d : Nat) (ys : List Value) (hx : a.eval x = .slice B m d) (hr : Rd w B m ys) (h1 : ∀ u ∈ ys, u.oneCell' = true) (N : Nat) (hN : n + m = N)
    (h63 : N ≤ maxLen) (hbytes : N * bytes ≤ 140737488355328) (hbase : base ≤ w.heap.size)
    (h : ∀ A' c' w', w'.ownsRow base e 1 (.slice A' N c') N (xs ++ ys) → Below base w w' → wpList P ops Q rest (a.put o.dst (.slice A' N c')) w') : wpList P ops Q (o :: rest) a w := by
  subst hN
  exact wpList_app hgd s x t ho e z bytes ht hinfo hz1 base A n c xs hs hown B m d ys hx hr h1 h63 hbytes hbase fun A' c' w' h2 _ h4 => h A' c' w' h2 h4
theorem own_low11 {w : World} {b b' : Nat} {e : TypeId} {s : Nat} {v : Value} {n : Nat} {xs : List Value} (h : w.ownsRow b e s v n xs) (hb : b' ≤ b) : w.ownsRow b' e s v n xs :=
  ⟨h.1, h.2.imp id fun ⟨g, cap, cur, e1, hg, r⟩ => ⟨g, cap, cur, e1, Nat.le_trans hb hg, r⟩⟩
/-- Functions against nil. -/
theorem run_neq_func {P : Program} (t : TypeId) {ps rs : Array TypeId} {vd : Bool} (h : P.underlying t = some (.func ps rs vd)) (fn : Fn) (fi ca : Array Value) (w : World) : (Go.binOp .neq t (.func fn fi ca) .nilFunc).run P w = .ok (.bool true) w := by
  have h1 : ∀ d, (Op.equalIn (d + 1) t (.func fn fi ca) .nilFunc).run P w = .ok false w := fun d => by simp [Op.equalIn, run_underlying h]
  have h2 : (Op.equal t (.func fn fi ca) .nilFunc).run P w = .ok false w := h1 9999
  simp only [Go.binOp]
  simp [h2]
theorem run_neq_nilf {P : Program} (t : TypeId) {ps rs : Array TypeId} {vd : Bool} (h : P.underlying t = some (.func ps rs vd)) (w : World) : (Go.binOp .neq t .nilFunc .nilFunc).run P w = .ok (.bool false) w := by
  have h1 : ∀ d, (Op.equalIn (d + 1) t .nilFunc .nilFunc).run P w = .ok true w := fun d => by simp [Op.equalIn, run_underlying h]
  have h2 : (Op.equal t .nilFunc .nilFunc).run P w = .ok true w := h1 9999
  simp only [Go.binOp]
  simp [h2]
/-- What a stream answers once it is broken. -/
def fnV : Option Int → Value
  | none => .nilFunc
  | some e => .func (.func 40) #[.int .i64 e] #[]
/-- A stream in memory. -/
structure StA11 (w : World) (g most : Nat) (A : Option Addr) (k : Nat) (left : List UInt8) (bf : Option Int) : Prop where
  str : Blk w g 54 [.int .i64 (most : Nat), .slice A left.length k, fnV bf]
  own : w.ownsRow 0 5 1 (.slice A left.length k) left.length (bv left)
  ap : ∀ b o, A = some ⟨b, o, none⟩ → b ≠ g
section
variable {w w' : World} {g most : Nat} {A : Option Addr} {k : Nat} {left : List UInt8} {bf : Option Int}
theorem StA11.keep (h : StA11 w g most A k left bf) (b : Below w.heap.size w w') : StA11 w' g most A k left bf := ⟨h.str.keep b, own_keep h.own b, h.ap⟩
theorem StA11.but {T : Nat → Prop} (h : StA11 w g most A k left bf) (b : But T w w') (hg : ¬ T g) (ha : Off T A) : StA11 w' g most A k left bf := ⟨h.str.but b hg, ownS_but h.own b ha, h.ap⟩
end
theorem fault_any (e : Int) (w : World) : Calls Try.prog 40 #[.int .i64 e] w fun x w' => x = .returned (.tuple #[.slice none 0 0, .int .i64 e]) ∧ w = w' := by
  go_enter Try.func40, Try.ntmps40
  go_wp2
  go_ret2
  exact ⟨rfl, rfl⟩
theorem new11_no (m : Int) (w : World) (h : m < 2 ∨ 268435460 < m) : Calls Try.prog 9 #[.int .i64 m] w fun e w' => e = .returned (.tuple #[.pointer none, .int .i64 1]) ∧ w = w' := by
  by_cases h1 : m < 2
  · go_enter Try.func9, Try.ntmps9
    go_wp2
    go_ret2
    exact ⟨rfl, rfl⟩
  · have h2 : 268435460 < m := by omega
    go_enter Try.func9, Try.ntmps9
    go_wp2
    go_ret2
    exact ⟨rfl, rfl⟩
theorem new11_any (m : Nat) (w : World) (h : 2 ≤ m ∧ m ≤ 268435460) : Calls Try.prog 9 #[.int .i64 (m : Nat)] w fun e w' => ∃ g, e = .returned (.tuple #[.pointer (some ⟨g, 0, none⟩), .int .i64 0]) ∧ w.heap.size ≤ g ∧ StA11 w' g m none 0 [] none ∧ Below w.heap.size w w' := by
  have h1 : ¬ (m : Int) < 2 := by omega
  have h2 : ¬ (268435460 : Int) < (m : Int) := by omega
  clear h
  go_enter Try.func9, Try.ntmps9
  go_wp2
  go_ret2
  exact ⟨w.heap.size, rfl, Nat.le_refl _, ⟨Blk.new w 54 [.int .i64 (m : Nat), .slice none 0 0, .nilFunc], World.ownsRow_nil _ _ _ _, (fun _ _ e => by cases e)⟩, (Below.refl _ _).alloc (Nat.le_refl _) _⟩
theorem left11_any (g most : Nat) (A : Option Addr) (k : Nat) (left : List UInt8) (bf : Option Int) (w : World) (h : StA11 w g most A k left bf) : Calls Try.prog 15 #[.pointer (some ⟨g, 0, none⟩)] w fun e w' => e = .returned (.int .i64 (left.length : Nat)) ∧ w = w' := by
  have c0 : w.cell? ⟨g, 1, none⟩ = some (.slice A left.length k) := h.str.cell 1
  clear h
  go_enter Try.func15, Try.ntmps15
  go_wp2
  go_ret
  exact ⟨rfl, rfl⟩
theorem left11_nil (w : World) : Calls Try.prog 15 #[.pointer none] w fun e w' => e = .returned (.int .i64 0) ∧ w = w' := by
  go_enter Try.func15, Try.ntmps15
  go_wp2
  go_ret
  exact ⟨rfl, rfl⟩
theorem feed11_nil (B : Option Addr) (m d : Nat) (w : World) : Calls Try.prog 13 #[.pointer none, .slice B m d] w fun e w' => e = .returned (.tuple #[.slice none 0 0, .int .i64 3]) ∧ w = w' := by
  go_enter Try.func13, Try.ntmps13
  go_wp2
  go_ret2
  exact ⟨rfl, rfl⟩

/-- What Feed tells, its error, what is left then, what it is broken by then. -/
def fdT11 (most : Nat) (left : List UInt8) (bf : Option Int) (bs : List UInt8) : List Pk := match bf with
  | some _ => []
  | none => toP most (left ++ bs)
def fdE11 (most : Nat) (left : List UInt8) (bf : Option Int) (bs : List UInt8) : Int := match bf with
  | some e => e
  | none => erP most (left ++ bs)
def fdL11 (most : Nat) (left : List UInt8) (bf : Option Int) (bs : List UInt8) : List UInt8 := match bf with
  | some _ => left
  | none => lfP most (left ++ bs)
def fdF11 (most : Nat) (left : List UInt8) (bf : Option Int) (bs : List UInt8) : Option Int := match bf with
  | some e => some e
  | none => if brP most (left ++ bs) then some (erP most (left ++ bs)) else none
/-- What Feed answers. -/
def RetFeed11 (g most : Nat) (A : Option Addr) (left : List UInt8) (bf : Option Int) (bs : List UInt8) (w : World) (e : Ending) (w' : World) : Prop :=
  ∃ O ok rs A' k', e = .returned (.tuple #[.slice O rs.length ok, .int .i64 (fdE11 most left bf bs)]) ∧ rs.map PkRow.p = fdT11 most left bf bs ∧ PRd w' O rs ∧ NewAt w O ∧ (∀ r ∈ rs, r.new w) ∧ StA11 w' g most A' k' (fdL11 most left bf bs) (fdF11 most left bf bs) ∧ (A' = A ∨ NewAt w A') ∧ Off (SoB A') O ∧ (∀ r ∈ rs, r.off (SoB A')) ∧ But (fun i => i = g ∨ SoB A i) w w'

set_option maxRecDepth 100000 in
theorem feed11_bad (g most : Nat) (A : Option Addr) (k : Nat) (left : List UInt8) (er : Int) (B : Option Addr) (m d : Nat) (bs : List UInt8) (w : World) (h : StA11 w g most A k left (some er)) :
    Calls Try.prog 13 #[.pointer (some ⟨g, 0, none⟩), .slice B m d] w (RetFeed11 g most A left (some er) bs w) := by
  have c1 : w.cell? ⟨g, 2, none⟩ = some (.func (.func 40) #[.int .i64 er] #[]) := h.str.cell 2
  have hcmp := fun W => run_neq_func (P := Try.prog) 52 Try.underlying52 (.func 40) #[.int .i64 er] #[] W
  have H := hide h
  clear h
  go_enter Try.func13, Try.ntmps13
  go_wp2_with fail
  refine (fault_any er w).mono ?_
  rintro e w1 ⟨rfl, rfl⟩
  go_wp2_with fail
  go_ret2
  exact ⟨none, 0, [], A, k, rfl, rfl, PRd.nil _, NewAt.nil _, by simp, H.out, Or.inl rfl, Off.none_ _, by simp, But.refl _ _⟩

theorem feed11_end {g most : Nat} {A : Option Addr} {left bs : List UInt8} {w w1 w2 w4 : World} {O : Option Addr} {ok : Nat} {rs : List PkRow} {A' : Option Addr} {k' : Nat} {E : Int} {T : List Pk} {L : List UInt8} {F : Option Int}
    (hF : fdE11 most left none bs = E ∧ fdT11 most left none bs = T ∧ fdL11 most left none bs = L ∧ fdF11 most left none bs = F)
    (hg : g < w.heap.size) (b01 : But (SoB A) w w1) (b2 : Below w1.heap.size w1 w2) (bV : But (fun i => i = g) w2 w4) (t2 : rs.map PkRow.p = T) (r2 : PRd w2 O rs) (n2 : NewAt w1 O) (m2 : ∀ r ∈ rs, r.new w1)
    (hst : StA11 w4 g most A' k' L F) (hA : A' = A ∨ NewAt w A') (hO : Off (SoB A') O) (hR : ∀ r ∈ rs, r.off (SoB A')) : RetFeed11 g most A left none bs w (.returned (.tuple #[.slice O rs.length ok, .int .i64 E])) w4 := by
  obtain ⟨f1, f2, f3, f4⟩ := hF
  have hs1 := b01.size
  unfold RetFeed11
  rw [f1, f2, f3, f4]
  refine ⟨O, ok, rs, A', k', rfl, t2, ⟨r2.1.but bV (fun b o e h => by have := n2 b o e; have h' : b = g := h; omega), fun r hr => (r2.2 r hr).but bV ((m2 r hr).high fun i h => by have h' : i = g := h; omega)⟩, n2.old hs1, fun r hr => (m2 r hr).old hs1, hst, hA, hO, hR, ?_⟩
  exact ((b01.wide (fun i h => Or.inr h)).on b2).trans bV (fun i _ h => Or.inl h)

set_option maxRecDepth 100000 in
set_option maxHeartbeats 4000000 in
theorem feed11_ok (g most : Nat) (hmost : most ≤ 268435460) (A : Option Addr) (k : Nat) (left : List UInt8) (B : Option Addr) (m d : Nat) (bs : List UInt8) (w : World) (h : StA11 w g most A k left none) (hr : Rd w B m (bv bs)) (hm : left.length + m ≤ 65535) :
    Calls Try.prog 13 #[.pointer (some ⟨g, 0, none⟩), .slice B m d] w (RetFeed11 g most A left none bs w) := by
  have c0 : w.cell? ⟨g, 0, none⟩ = some (.int .i64 (most : Nat)) := h.str.cell 0
  have c1 : w.cell? ⟨g, 1, none⟩ = some (.slice A left.length k) := h.str.cell 1
  have c2 : w.cell? ⟨g, 2, none⟩ = some .nilFunc := h.str.cell 2
  have hcmp := fun W => run_neq_nilf (P := Try.prog) 52 Try.underlying52 W
  have H := hide h
  have hx : (left ++ bs).length = left.length + m := by rw [List.length_append, ← bv_length bs, hr.1]
  have HX := hide hx
  have HR := hide hr
  obtain ⟨n, hn⟩ : ∃ n, left.length = n := ⟨_, rfl⟩
  rw [hn] at c1 hm
  have Hn := hide hn
  obtain ⟨xs, hxs⟩ : ∃ xs, left ++ bs = xs := ⟨_, rfl⟩
  have hF : fdE11 most left none bs = erP most xs ∧ fdT11 most left none bs = toP most xs ∧ fdL11 most left none bs = lfP most xs ∧ fdF11 most left none bs = if brP most xs then some (erP most xs) else none := by rw [← hxs]; exact ⟨rfl, rfl, rfl, rfl⟩
  have HF := hide hF
  have hbx : bv left ++ bv bs = bv xs := by rw [← bv_append, hxs]
  rw [hxs, hn] at HX
  have Hbx := hide hbx
  clear h hr hx hn hxs hF hbx
  go_enter Try.func13, Try.ntmps13
  go_upto_region 5 with fail
  refine wp_region_held_drew (S := fun Z => Z.cell? ⟨g, 0, none⟩ = some (.int .i64 (most : Nat)) ∧ Z.cell? ⟨g, 1, none⟩ = some (.slice A n k)) (by kernel_rfl) ?_ (fun hHeld => ?_)
  · exact ⟨c0, c1⟩
  refine wpAnyH_take (i := 0) (oi := { dst := some 24, op := _, type := _, pos := _, after := _, guard := _ }) (v := ?v1x1) rfl (by kernel_rfl) (by kernel_rfl) (by kernel_rfl) (fun _ _ _ h => h) (Or.inl ⟨by rfl, ?hy1x1⟩) hHeld ?rest1x1
  case hy1x1 => (intro w hSw; go_simp <;> with_reducible rfl)
  try simp only [Act.put, List.setIfInBounds_toArray, List.set_cons_zero, List.set_cons_succ]
  refine wpAnyH_take (i := 1) (oi := { dst := some 25, op := _, type := _, pos := _, after := _, guard := _ }) (v := ?v1x2) rfl (by kernel_rfl) (by kernel_rfl) (by kernel_rfl) (fun _ _ _ h => h) (Or.inl ⟨by rfl, ?hy1x2⟩) hHeld ?rest1x2
  case hy1x2 => (intro w hSw; go_simp <;> with_reducible rfl)
  try simp only [Act.put, List.setIfInBounds_toArray, List.set_cons_zero, List.set_cons_succ]
  refine wpAnyH_take (i := 2) (oi := { dst := some 26, op := _, type := _, pos := _, after := _, guard := _ }) (v := ?v1x3) rfl (by kernel_rfl) (by kernel_rfl) (by kernel_rfl) (fun _ _ _ h => h) (Or.inl ⟨by rfl, ?hy1x3⟩) hHeld ?rest1x3
  case hy1x3 => (intro w hSw; go_simp <;> with_reducible rfl)
  try simp only [Act.put, List.setIfInBounds_toArray, List.set_cons_zero, List.set_cons_succ]
  refine wpAnyH_take (i := 3) (oi := { dst := some 27, op := _, type := _, pos := _, after := _, guard := _ }) (v := ?v1x4) rfl (by kernel_rfl) (by kernel_rfl) (by kernel_rfl) (fun _ _ _ h => h) (Or.inl ⟨by rfl, ?hy1x4⟩) hHeld ?rest1x4
  case hy1x4 => (intro w hSw; go_simp <;> with_reducible rfl)
  try simp only [Act.put, List.setIfInBounds_toArray, List.set_cons_zero, List.set_cons_succ]
  refine wpAnyH_take (i := 4) (oi := { dst := some 28, op := _, type := _, pos := _, after := _, guard := _ }) (v := ?v1x5) rfl (by kernel_rfl) (by kernel_rfl) (by kernel_rfl) (fun _ _ _ h => h) (Or.inl ⟨by rfl, ?hy1x5⟩) hHeld ?rest1x5
  case hy1x5 => (intro w hSw; go_simp <;> with_reducible rfl)
  try simp only [Act.put, List.setIfInBounds_toArray, List.set_cons_zero, List.set_cons_succ]
  refine wpAnyH_take (i := 6) (oi := { dst := some 30, op := _, type := _, pos := _, after := _, guard := _ }) (v := ?v1x6) rfl (by kernel_rfl) (by kernel_rfl) (by kernel_rfl) (fun _ _ _ h => h) (Or.inl ⟨by rfl, ?hy1x6⟩) hHeld ?rest1x6
  case hy1x6 => (intro w hSw; go_simp <;> with_reducible rfl)
  try simp only [Act.put, List.setIfInBounds_toArray, List.set_cons_zero, List.set_cons_succ]
  refine wpAnyH_take (i := 7) (oi := { dst := some 31, op := _, type := _, pos := _, after := _, guard := _ }) (v := ?v1x7) rfl (by kernel_rfl) (by kernel_rfl) (by kernel_rfl) (fun _ _ _ h => h) (Or.inl ⟨by rfl, ?hy1x7⟩) hHeld ?rest1x7
  case hy1x7 => (intro w hSw; go_simp <;> with_reducible rfl)
  try simp only [Act.put, List.setIfInBounds_toArray, List.set_cons_zero, List.set_cons_succ]
  refine wpAnyH_take (i := 8) (oi := { dst := some 32, op := _, type := _, pos := _, after := _, guard := _ }) (v := ?v1x8) rfl (by kernel_rfl) (by kernel_rfl) (by kernel_rfl) (fun _ _ _ h => h) (Or.inl ⟨by rfl, ?hy1x8⟩) hHeld ?rest1x8
  case hy1x8 => (intro w hSw; go_simp <;> with_reducible rfl)
  try simp only [Act.put, List.setIfInBounds_toArray, List.set_cons_zero, List.set_cons_succ]
  refine wpAnyH_take (i := 9) (oi := { dst := some 33, op := _, type := _, pos := _, after := _, guard := _ }) (v := ?v1x9) rfl (by kernel_rfl) (by kernel_rfl) (by kernel_rfl) (fun _ _ _ h => h) (Or.inl ⟨by rfl, ?hy1x9⟩) hHeld ?rest1x9
  case hy1x9 => (intro w hSw; go_simp <;> with_reducible rfl)
  try simp only [Act.put, List.setIfInBounds_toArray, List.set_cons_zero, List.set_cons_succ]
  refine wpAnyH_ready (rs := [5]) (by kernel_rfl) (by simp) (AllReadyH.cons (o := { dst := some 29, op := _, type := _, pos := _, after := _, guard := _ }) rfl (fun K hK => ?_) AllReadyH.nil)
  rw [if_pos (by rfl)]
  have hown : w.drew.ownsRow 0 5 1 (.slice A n k) n (bv left) := by have := own_keep H.out.own ((Below.refl _ _).drew); rw [Hn.out] at this; exact this
  refine op_app2 (.tmp 27) (.tmp 28) 28 rfl 5 _ _ Try.underlying28 u8_info rfl 0 A n k (bv left) rfl hown B m d (bv bs) rfl (HR.out.keep ((Below.refl _ _).drew)) (bv_one _) (by unfold maxLen; omega) (by omega) (Nat.zero_le _) ?_
  intro A1 k1 w1 o1 b1 h1
  rw [Hbx.out] at o1
  have b01 : But (SoB A) w w1 := (But.ofBelow ((Below.refl _ _).drew) _).trans b1 (fun _ _ e => e)
  have hgA : ¬ SoB A g := fun ⟨o, e⟩ => H.out.ap g o e rfl
  have HB1 := hide (H.out.str.but b01 hgA)
  have c0' := HB1.out.cell 0
  have c1' := HB1.out.cell 1
  rw [Hn.out] at c1'
  have O1 := hide o1
  have B01 := hide b01
  have H1 := hide (show A1 = A ∨ NewAt w A1 from h1.imp id fun h b o e => h b o e)
  clear hown o1 b1 h1 b01
  refine hK.out _ _ ?_ (fun hHeld => ?_)
  · exact ⟨c0', c1'⟩
  clear hK K
  try simp only [Act.put, List.setIfInBounds_toArray, List.set_cons_zero, List.set_cons_succ]
  refine wpAnyH_ready (rs := [10]) (by kernel_rfl) (by simp) (AllReadyH.cons (o := { dst := some 34, op := _, type := _, pos := _, after := _, guard := _ }) rfl (fun K hK => ?_) AllReadyH.nil)
  go_simp
  refine (cut11_any most hmost A1 (n + m) k1 xs w1 (own_rd O1.out) (own_cap O1.out) (by omega)).mono ?_
  rintro e w2 ⟨O, ok, rs, D, dn, dk, rfl, t2, r2, n2, m2, hdn, hdk, i2, d2, f2, g2, b2⟩
  have HB2 := hide (HB1.out.keep b2)
  have c0'' := HB2.out.cell 0
  have c1'' := HB2.out.cell 1
  rw [Hn.out] at c1''
  have B2 := hide b2
  have T2 := hide t2
  have R2 := hide r2
  have N2 := hide n2
  have M2 := hide m2
  have D2 := hide d2
  have F2 := hide f2
  have G2 := hide g2
  have HD := hide hdn
  clear b2 t2 r2 n2 m2 i2 d2 f2 g2 hdn
  go_wp2_with fail
  refine hK.out _ _ ?_ (fun hHeld => ?_)
  · exact ⟨c0'', c1''⟩
  clear hK K
  try simp only [Act.put, List.setIfInBounds_toArray, List.set_cons_zero, List.set_cons_succ]
  refine wpAnyH_take (i := 11) (oi := { dst := some 23, op := _, type := _, pos := _, after := _, guard := _ }) (v := ?v1x12) rfl (by kernel_rfl) (by kernel_rfl) (by kernel_rfl) (fun _ _ _ h => h) (Or.inl ⟨by rfl, ?hy1x12⟩) hHeld ?rest1x12
  case hy1x12 => (intro w hSw; go_simp <;> with_reducible rfl)
  try simp only [Act.put, List.setIfInBounds_toArray, List.set_cons_zero, List.set_cons_succ]
  refine wpAnyH_take (i := 12) (oi := { dst := some 35, op := _, type := _, pos := _, after := _, guard := _ }) (v := ?v1x13) rfl (by kernel_rfl) (by kernel_rfl) (by kernel_rfl) (fun _ _ _ h => h) (Or.inl ⟨by rfl, ?hy1x13⟩) hHeld ?rest1x13
  case hy1x13 => (intro w hSw; go_simp <;> with_reducible rfl)
  try simp only [Act.put, List.setIfInBounds_toArray, List.set_cons_zero, List.set_cons_succ]
  refine wpAnyH_take (i := 13) (oi := { dst := some 36, op := _, type := _, pos := _, after := _, guard := _ }) (v := ?v1x14) rfl (by kernel_rfl) (by kernel_rfl) (by kernel_rfl) (fun _ _ _ h => h) (Or.inl ⟨by rfl, ?hy1x14⟩) hHeld ?rest1x14
  case hy1x14 => (intro w hSw; go_simp <;> with_reducible rfl)
  try simp only [Act.put, List.setIfInBounds_toArray, List.set_cons_zero, List.set_cons_succ]
  refine wpAnyH_take (i := 14) (oi := { dst := some 37, op := _, type := _, pos := _, after := _, guard := _ }) (v := ?v1x15) rfl (by kernel_rfl) (by kernel_rfl) (by kernel_rfl) (fun _ _ _ h => h) (Or.inl ⟨by rfl, ?hy1x15⟩) hHeld ?rest1x15
  case hy1x15 => (intro w hSw; go_simp <;> with_reducible rfl)
  try simp only [Act.put, List.setIfInBounds_toArray, List.set_cons_zero, List.set_cons_succ]
  refine wpAnyH_take (i := 15) (oi := { dst := some 6, op := _, type := _, pos := _, after := _, guard := _ }) (v := ?v1x16) rfl (by kernel_rfl) (by kernel_rfl) (by kernel_rfl) (fun _ _ _ h => h) (Or.inl ⟨by rfl, ?hy1x16⟩) hHeld ?rest1x16
  case hy1x16 => (intro w hSw; go_simp <;> with_reducible rfl)
  try simp only [Act.put, List.setIfInBounds_toArray, List.set_cons_zero, List.set_cons_succ]
  refine wpAnyH_take (i := 16) (oi := { dst := some 7, op := _, type := _, pos := _, after := _, guard := _ }) (v := ?v1x17) rfl (by kernel_rfl) (by kernel_rfl) (by kernel_rfl) (fun _ _ _ h => h) (Or.inl ⟨by rfl, ?hy1x17⟩) hHeld ?rest1x17
  case hy1x17 => (intro w hSw; go_simp <;> with_reducible rfl)
  try simp only [Act.put, List.setIfInBounds_toArray, List.set_cons_zero, List.set_cons_succ]
  refine wpAnyH_take (i := 17) (oi := { dst := some 8, op := _, type := _, pos := _, after := _, guard := _ }) (v := ?v1x18) rfl (by kernel_rfl) (by kernel_rfl) (by kernel_rfl) (fun _ _ _ h => h) (Or.inl ⟨by rfl, ?hy1x18⟩) hHeld ?rest1x18
  case hy1x18 => (intro w hSw; go_simp <;> with_reducible rfl)
  try simp only [Act.put, List.setIfInBounds_toArray, List.set_cons_zero, List.set_cons_succ]
  refine wpAnyH_done (by kernel_rfl) ?_ _
  clear hHeld c0 c1 c2 c0' c1' hcmp
  have hor : brP most xs = true → erP most xs = 100 ∨ erP most xs = 101 := fun hb => by
    unfold erP
    rw [hb]
    exact stC_or _ _
  have hz : brP most xs = false → erP most xs = 0 := fun hb => by
    unfold erP
    rw [hb]
    rfl
  have hlen := lfP_len most xs
  have hL : toP most xs = [] → brP most xs = false → lfP most xs = xs := fun h1 h2 => by
    unfold toP brP lfP at *
    match hn : stNx most xs with
    | .wait => rw [brP, cutAll_wait xs (stCuts most) hn]; rfl
    | .bad => rw [cutAll_bad xs (stCuts most) hn] at h2; cases h2
    | .cut a n => rw [cutAll_cut xs (stCuts most) a n hn] at h1; cases h1
  have hdn5 : dn ≤ 65535 := by have := HX.out; have := HD.out; omega
  have hrs5 : rs.length ≤ 65535 := by have := HX.out; have := congrArg List.length T2.out; rw [List.length_map] at this; omega
  clear hlen
  generalize erP most xs = E at *
  generalize brP most xs = bb at *
  generalize lfP most xs = L at *
  generalize toP most xs = T at *
  have hgl := H.out.str.lt
  have hg1 : g < w1.heap.size := Nat.lt_of_lt_of_le hgl B01.out.size
  have hA1l : ∀ b o, A1 = some ⟨b, o, none⟩ → b < w1.heap.size := fun b o e => own_lt O1.out b o e
  have hA1g : ∀ b o, A1 = some ⟨b, o, none⟩ → b ≠ g := fun b o e => by
    rcases H1.out with h | h
    · exact H.out.ap b o (h ▸ e)
    · have := h b o e
      omega
  have HEND := hide (show ∀ (w4 : World) (A' : Option Addr) (k' : Nat) (F : Option Int), (if bb = true then some E else none) = F → But (fun i => i = g) w2 w4 → StA11 w4 g most A' k' L F → (A' = A ∨ NewAt w A') → Off (SoB A') O → (∀ r ∈ rs, r.off (SoB A')) → RetFeed11 g most A left none bs w (.returned (.tuple #[.slice O rs.length ok, .int .i64 E])) w4 from fun w4 A' k' F hFF bV hst hA hO hR => feed11_end (by rw [← hFF]; exact HF.out) hgl B01.out B2.out bV T2.out R2.out N2.out M2.out hst hA hO hR)
  have sf := HB2.out.frozen
  obtain rfl := HD.out
  have HLX := hide (show rs.map PkRow.p = [] → bb = false → L = xs from fun h1 h2 => hL (by rw [← T2.out]; exact h1) h2)
  have RO := hide R2.out.1
  have RI := hide R2.out.2
  clear HD HF T2 R2 hL
  cases bb with
  | false =>
    obtain rfl := hz rfl
    clear hor hz
    by_cases hrs : rs = []
    · obtain ⟨rfl, e2, rfl⟩ := F2.out hrs rfl
      have hLx : L = xs := HLX.out (by rw [hrs]; rfl) rfl
      have E2 := hide e2
      have HLx := hide hLx
      subst hrs
      clear e2 hLx
      go_wp2_with fail
      go_ret2
      have hset : But (fun i => i = g) w2 (w2.setCell ⟨g, 1, none⟩ (.slice D L.length dk)) := But.setCell w2 _ rfl
      have hown : w2.ownsRow 0 5 1 (.slice D L.length dk) L.length (bv L) := by
        have := own_keep O1.out B2.out
        rw [← E2.out, ← HLx.out] at this
        exact this
      refine HEND.out _ D dk none (by rfl) hset ⟨HB2.out.set 1 _, own_but hown hset (fun b o e h => hA1g b o e h), hA1g⟩ H1.out ?_ (by simp)
      intro b o e ⟨o', e'⟩
      have h1 := hA1l b o' e'
      have h2 := N2.out b o e
      omega
    · skip
      have q : (0 : Int) < (rs.length : Int) := by
        cases rs with
        | nil => exact absurd rfl hrs
        | cons a l => show (0 : Int) < ((l.length + 1 : Nat) : Int); omega
      go_upto_region 10 with (at_builtin; refine wpList_appM rfl (.const (.slice none 0 0)) (.tmp 48) 28 rfl 5 _ _ Try.underlying28 u8_info rfl w2.heap.size none 0 0 [] rfl (World.ownsRow_nil _ _ _ _) D _ dk (bv L) rfl D2.out (bv_one _) L.length (by omega) (by unfold maxLen; omega) (by omega) (Nat.le_refl _) ?_; intro A9 k9 w3 o9 b9; rw [List.nil_append] at o9)
      have HB9 := hide (HB2.out.keep b9)
      have c9 := HB9.out.cell 1
      have sf9 := HB9.out.frozen
      have O9 := hide o9
      have B9 := hide b9
      clear o9 b9
      go_wp2_with fail
      go_ret2
      have hset : But (fun i => i = g) w3 (w3.setCell ⟨g, 1, none⟩ (.slice A9 L.length k9)) := But.setCell w3 _ rfl
      have hn9 : ∀ b o, A9 = some ⟨b, o, none⟩ → w2.heap.size ≤ b := fun b o e => own_newAt O9.out b o e
      have hV2 := (But.refl (fun i => i = g) w2).size
      have h12 := B2.out.size
      refine HEND.out _ A9 k9 none (by rfl) (((But.refl (fun i => i = g) w2).on B9.out).trans hset (fun _ _ e => e)) ⟨HB9.out.set 1 _, own_low11 (own_but O9.out hset (fun b o e h => by have := hn9 b o e; have h' : b = g := h; omega)) (Nat.zero_le _), fun b o e => by have := hn9 b o e; omega⟩ (Or.inr fun b o e => by have := hn9 b o e; have := B01.out.size; omega) ?_ ?_
      · intro b o e ⟨o', e'⟩
        have h1 := hn9 b o' e'
        obtain ⟨b', o'', e2, hl, -⟩ := RO.out.at_ (k := 0) (by cases rs with | nil => exact absurd rfl hrs | cons a l => simp)
        rw [e] at e2
        injection e2 with e2
        injection e2 with e3
        omega
      · exact fun r hr => (RI.out r hr).low fun i ⟨o, e⟩ => by have := hn9 i o e; omega
  | true =>
    obtain ⟨rfl, e2, rfl⟩ := G2.out rfl
    have hE := hor rfl
    have HL0 := hide (List.eq_nil_of_length_eq_zero e2)
    clear hor hz e2
    rcases hE with rfl | rfl
    · skip
      have c2'' : w2.cell? ⟨g, 2, none⟩ = some .nilFunc := HB2.out.cell 2
      have hsto : ∀ m, (store ⟨g, 2, none⟩ (.func (.func 40) #[.int .i64 100] #[]) m).run Try.prog w2 = .ok () (w2.setCell ⟨g, 2, none⟩ (.func (.func 40) #[.int .i64 100] #[])) := fun m => by
        rw [run_store _ _ _ _ _ rfl, c2'']
        simp [sf]
      go_upto_region 8 with fail
      clear hsto c2''
      have hcl : But (fun i => i = g) w2 (w2.setCell ⟨g, 2, none⟩ (fnV (some 100))) := But.setCell w2 _ rfl
      have HB3 := hide (HB2.out.set 2 (fnV (some 100)))
      have D3 := hide (D2.out.but hcl (Off.none_ _))
      have HC := hide hcl
      clear hcl
      change Code.wp _ _ _ _ (w2.setCell ⟨g, 2, none⟩ (fnV (some 100)))
      generalize w2.setCell ⟨g, 2, none⟩ (fnV (some 100)) = V at *
      have c3 := HB3.out.cell 1
      have sf3 := HB3.out.frozen
      clear c0'' c1'' sf
      by_cases hrs : rs = []
      · subst hrs
        go_wp2_with fail
        go_ret2
        have hset : But (fun i => i = g) V (V.setCell ⟨g, 1, none⟩ (.slice none L.length 0)) := But.setCell V _ rfl
        obtain rfl := HL0.out
        exact HEND.out _ none 0 (some 100) (by rfl) (HC.out.trans hset (fun _ _ e => e)) ⟨HB3.out.set 1 _, World.ownsRow_nil _ _ _ _, fun _ _ e => by cases e⟩ (Or.inr (NewAt.nil _)) (fun b o e ⟨o', e'⟩ => by cases e') (by simp)
      · skip
        have q : (0 : Int) < (rs.length : Int) := by
          cases rs with
          | nil => exact absurd rfl hrs
          | cons a l => show (0 : Int) < ((l.length + 1 : Nat) : Int); omega
        go_upto_region 10 with (at_builtin; refine wpList_appM rfl (.const (.slice none 0 0)) (.tmp 48) 28 rfl 5 _ _ Try.underlying28 u8_info rfl V.heap.size none 0 0 [] rfl (World.ownsRow_nil _ _ _ _) none _ 0 (bv L) rfl D3.out (bv_one _) L.length (by omega) (by unfold maxLen; omega) (by omega) (Nat.le_refl _) ?_; intro A9 k9 w3 o9 b9; rw [List.nil_append] at o9)
        have HB9 := hide (HB3.out.keep b9)
        have c9 := HB9.out.cell 1
        have sf9 := HB9.out.frozen
        have O9 := hide o9
        have B9 := hide b9
        clear o9 b9
        go_wp2_with fail
        go_ret2
        have hset : But (fun i => i = g) w3 (w3.setCell ⟨g, 1, none⟩ (.slice A9 L.length k9)) := But.setCell w3 _ rfl
        have hn9 : ∀ b o, A9 = some ⟨b, o, none⟩ → V.heap.size ≤ b := fun b o e => own_newAt O9.out b o e
        have hV2 := HC.out.size
        have h12 := B2.out.size
        refine HEND.out _ A9 k9 (some 100) (by rfl) ((HC.out.on B9.out).trans hset (fun _ _ e => e)) ⟨HB9.out.set 1 _, own_low11 (own_but O9.out hset (fun b o e h => by have := hn9 b o e; have h' : b = g := h; omega)) (Nat.zero_le _), fun b o e => by have := hn9 b o e; omega⟩ (Or.inr fun b o e => by have := hn9 b o e; have := B01.out.size; omega) ?_ ?_
        · intro b o e ⟨o', e'⟩
          have h1 := hn9 b o' e'
          obtain ⟨b', o'', e2, hl, -⟩ := RO.out.at_ (k := 0) (by cases rs with | nil => exact absurd rfl hrs | cons a l => simp)
          rw [e] at e2
          injection e2 with e2
          injection e2 with e3
          omega
        · exact fun r hr => (RI.out r hr).low fun i ⟨o, e⟩ => by have := hn9 i o e; omega
    · skip
      have c2'' : w2.cell? ⟨g, 2, none⟩ = some .nilFunc := HB2.out.cell 2
      have hsto : ∀ m, (store ⟨g, 2, none⟩ (.func (.func 40) #[.int .i64 101] #[]) m).run Try.prog w2 = .ok () (w2.setCell ⟨g, 2, none⟩ (.func (.func 40) #[.int .i64 101] #[])) := fun m => by
        rw [run_store _ _ _ _ _ rfl, c2'']
        simp [sf]
      go_upto_region 8 with fail
      clear hsto c2''
      have hcl : But (fun i => i = g) w2 (w2.setCell ⟨g, 2, none⟩ (fnV (some 101))) := But.setCell w2 _ rfl
      have HB3 := hide (HB2.out.set 2 (fnV (some 101)))
      have D3 := hide (D2.out.but hcl (Off.none_ _))
      have HC := hide hcl
      clear hcl
      change Code.wp _ _ _ _ (w2.setCell ⟨g, 2, none⟩ (fnV (some 101)))
      generalize w2.setCell ⟨g, 2, none⟩ (fnV (some 101)) = V at *
      have c3 := HB3.out.cell 1
      have sf3 := HB3.out.frozen
      clear c0'' c1'' sf
      by_cases hrs : rs = []
      · subst hrs
        go_wp2_with fail
        go_ret2
        have hset : But (fun i => i = g) V (V.setCell ⟨g, 1, none⟩ (.slice none L.length 0)) := But.setCell V _ rfl
        obtain rfl := HL0.out
        exact HEND.out _ none 0 (some 101) (by rfl) (HC.out.trans hset (fun _ _ e => e)) ⟨HB3.out.set 1 _, World.ownsRow_nil _ _ _ _, fun _ _ e => by cases e⟩ (Or.inr (NewAt.nil _)) (fun b o e ⟨o', e'⟩ => by cases e') (by simp)
      · skip
        have q : (0 : Int) < (rs.length : Int) := by
          cases rs with
          | nil => exact absurd rfl hrs
          | cons a l => show (0 : Int) < ((l.length + 1 : Nat) : Int); omega
        go_upto_region 10 with (at_builtin; refine wpList_appM rfl (.const (.slice none 0 0)) (.tmp 48) 28 rfl 5 _ _ Try.underlying28 u8_info rfl V.heap.size none 0 0 [] rfl (World.ownsRow_nil _ _ _ _) none _ 0 (bv L) rfl D3.out (bv_one _) L.length (by omega) (by unfold maxLen; omega) (by omega) (Nat.le_refl _) ?_; intro A9 k9 w3 o9 b9; rw [List.nil_append] at o9)
        have HB9 := hide (HB3.out.keep b9)
        have c9 := HB9.out.cell 1
        have sf9 := HB9.out.frozen
        have O9 := hide o9
        have B9 := hide b9
        clear o9 b9
        go_wp2_with fail
        go_ret2
        have hset : But (fun i => i = g) w3 (w3.setCell ⟨g, 1, none⟩ (.slice A9 L.length k9)) := But.setCell w3 _ rfl
        have hn9 : ∀ b o, A9 = some ⟨b, o, none⟩ → V.heap.size ≤ b := fun b o e => own_newAt O9.out b o e
        have hV2 := HC.out.size
        have h12 := B2.out.size
        refine HEND.out _ A9 k9 (some 101) (by rfl) ((HC.out.on B9.out).trans hset (fun _ _ e => e)) ⟨HB9.out.set 1 _, own_low11 (own_but O9.out hset (fun b o e h => by have := hn9 b o e; have h' : b = g := h; omega)) (Nat.zero_le _), fun b o e => by have := hn9 b o e; omega⟩ (Or.inr fun b o e => by have := hn9 b o e; have := B01.out.size; omega) ?_ ?_
        · intro b o e ⟨o', e'⟩
          have h1 := hn9 b o' e'
          obtain ⟨b', o'', e2, hl, -⟩ := RO.out.at_ (k := 0) (by cases rs with | nil => exact absurd rfl hrs | cons a l => simp)
          rw [e] at e2
          injection e2 with e2
          injection e2 with e3
          omega
        · exact fun r hr => (RI.out r hr).low fun i ⟨o, e⟩ => by have := hn9 i o e; omega

theorem feed11_any (g most : Nat) (hmost : most ≤ 268435460) (A : Option Addr) (k : Nat) (left : List UInt8) (bf : Option Int) (B : Option Addr) (m d : Nat) (bs : List UInt8) (w : World) (h : StA11 w g most A k left bf) (hr : Rd w B m (bv bs)) (hm : left.length + m ≤ 65535) :
    Calls Try.prog 13 #[.pointer (some ⟨g, 0, none⟩), .slice B m d] w (RetFeed11 g most A left bf bs w) := by
  cases bf with
  | none => exact feed11_ok g most hmost A k left B m d bs w h hr hm
  | some er => exact feed11_bad g most A k left er B m d bs w h

end Go.Proofs.Ytkgidimaiedocaa

namespace Go.Proofs.Ytkgidimaiedocaa
set_option linter.unusedVariables false
set_option linter.unusedSimpArgs false
open Go.RowKit

theorem ex11_a : stNx 100 [192, 0] = .cut (zeroP 12) 2 := by
  have h : atR [192, 0] 1 = (0, 2, 0) := by decide
  unfold stNx
  rw [h]
  simp [ex_a]
theorem ex11_e : readP [224, 0] = some (zeroP 14) := by rw [← parseQ_eq]; decide
theorem ex11_b : stNx 100 [224, 0] = .cut (zeroP 14) 2 := by
  have h : atR [224, 0] 1 = (0, 2, 0) := by decide
  unfold stNx
  rw [h]
  simp [ex11_e]
theorem ex11_c : stNx 100 [193, 0] = .bad ∧ stC 100 [193, 0] = 100 := by
  have h : atR [193, 0] 1 = (0, 2, 0) := by decide
  unfold stNx stC
  rw [h]
  simp [ex_b]
theorem ex11_d : stNx 100 [48, 99] = .bad ∧ stC 100 [48, 99] = 101 := by
  have h : atR [48, 99] 1 = (99, 2, 0) := by decide
  unfold stNx stC
  rw [h]
  simp
theorem ex11_w : stNx 100 [192] = .wait := by
  have h : atR [192] 1 = (0, 0, 7) := by decide
  unfold stNx
  rw [h]
  simp
theorem ex11_1 : cutAll (stNx 100) [192] = ([], [192], false) := cutAll_wait _ (stCuts 100) ex11_w
theorem ex11_2 : cutAll (stNx 100) [192, 0, 224, 0] = ([zeroP 12, zeroP 14], [], false) := by
  rw [cutAll_cut [192, 0, 224, 0] (stCuts 100) (zeroP 12) 2 ((stCuts 100).on [192, 0] [224, 0] _ _ ex11_a)]
  rw [show List.drop 2 [192, 0, 224, 0] = [(224 : UInt8), 0] from rfl, cutAll_cut _ (stCuts 100) (zeroP 14) 2 ex11_b]
  rw [show List.drop 2 [224, 0] = ([] : List UInt8) from rfl, cutAll_wait _ (stCuts 100) (stCuts 100).nil]
theorem ex11_3 : cutAll (stNx 100) [48, 99] = ([], [48, 99], true) := cutAll_bad _ (stCuts 100) ex11_d.1
theorem ex11_4 : cutAll (stNx 100) [192, 0, 193, 0] = ([zeroP 12], [193, 0], true) := by
  rw [cutAll_cut [192, 0, 193, 0] (stCuts 100) (zeroP 12) 2 ((stCuts 100).on [192, 0] [193, 0] _ _ ex11_a)]
  rw [show List.drop 2 [192, 0, 193, 0] = [(193 : UInt8), 0] from rfl, cutAll_bad _ (stCuts 100) ex11_c.1]

theorem ex11_f1 : fdE11 100 [] none [192] = 0 ∧ fdT11 100 [] none [192] = [] ∧ fdL11 100 [] none [192] = [192] ∧ fdF11 100 [] none [192] = none := by
  simp [fdE11, fdT11, fdL11, fdF11, erP, toP, lfP, brP, ex11_1]
theorem ex11_f2 : fdE11 100 [192] none [0, 224, 0] = 0 ∧ fdT11 100 [192] none [0, 224, 0] = [zeroP 12, zeroP 14] := by
  simp [fdE11, fdT11, erP, toP, brP, ex11_2]
theorem ex11_f3 : fdE11 100 [] none [48, 99] = 101 := by
  simp [fdE11, erP, brP, ex11_3, ex11_d.2]
theorem ex11_f4 : fdE11 100 [] none [192, 0, 193, 0] = 100 ∧ fdT11 100 [] none [192, 0, 193, 0] = [zeroP 12] := by
  simp [fdE11, fdT11, erP, toP, brP, ex11_4, ex11_c.2]

set_option maxRecDepth 100000 in
set_option maxHeartbeats 4000000 in
theorem awake11_any (w : World) : Calls Try.prog 11 #[] w fun e w' => e = .returned (.bool true) ∧ Below w.heap.size w w' := by
  have PN := fun V => new11_any 100 V (by omega)
  go_enter Try.func11, Try.ntmps11
  go_wp2_with fail
  refine (PN w).mono ?_
  rintro e w1 ⟨g1, rfl, hg1, s1, b1⟩
  have S1 := hide s1
  have BW := hide b1
  have hl1 := S1.out.str.lt
  clear s1 b1
  go_wp2_with fail
  refine (PN w1).mono ?_
  rintro e w2 ⟨g2, rfl, hg2, s2, b2⟩
  have S2 := hide s2
  have S1 := hide (S1.out.keep b2)
  have BW := hide (below_on BW.out b2)
  have hl2 := S2.out.str.lt
  clear s2 b2
  go_wp2_with fail
  refine (PN w2).mono ?_
  rintro e w3 ⟨g3, rfl, hg3, s3, b3⟩
  have S3 := hide s3
  have S2 := hide (S2.out.keep b3)
  have S1 := hide (S1.out.keep b3)
  have BW := hide (below_on BW.out b3)
  have hl3 := S3.out.str.lt
  clear s3 b3 PN
  go_wp2_with fail
  generalize hV : w3.alloc _ = V
  have hz : w3.alloc (.cells (arr (bv [192])) 5) = V := hV
  have hB : Blk V w3.heap.size 5 (bv [192]) := by rw [← hz]; exact Blk.new w3 5 _
  have bV : Below w3.heap.size w3 V := by rw [← hz]; exact (Below.refl _ _).alloc (Nat.le_refl _) _
  have hR := hB.rd
  rw [bv_length] at hR
  have S1 := hide (S1.out.keep bV)
  have S2 := hide (S2.out.keep bV)
  have S3 := hide (S3.out.keep bV)
  have BW := hide (below_on BW.out bV)
  have hl1 := S1.out.str.lt
  have hl2 := S2.out.str.lt
  have hl3 := S3.out.str.lt
  have P := feed11_any g1 100 (by omega) none 0 [] none (some ⟨w3.heap.size, 0, none⟩) 1 1 [192] V S1.out hR (by simp)
  unfold RetFeed11 at P
  obtain ⟨f1, f2, f3, f4⟩ := ex11_f1
  rw [f1, f2, f3, f4] at P
  clear hV hz hB bV hR f1 f2 f3 f4
  refine P.mono ?_
  rintro e w4 ⟨O1, ok1, rs1, A1, k1, rfl, hm, -, -, -, s1, ha1, -, -, bb⟩
  obtain rfl : rs1 = [] := List.map_eq_nil_iff.1 hm
  have hbs := bb.size
  have hw3 := BW.out.size
  have S1 := hide s1
  have S2 := hide (S2.out.but bb (fun h => by rcases h with h | ⟨o, h⟩; omega; cases h) (Off.none_ _))
  have S3 := hide (S3.out.but bb (fun h => by rcases h with h | ⟨o, h⟩; omega; cases h) (Off.none_ _))
  have BW := hide (But.below BW.out bb (fun i h => by rcases h with h | ⟨o, h⟩; omega; cases h) hw3)
  have HA1 := hide (show ∀ i, SoB A1 i → g3 < i ∧ w.heap.size ≤ i from fun i ⟨o, e⟩ => by
    rcases ha1 with rfl | ha1
    · cases e
    · have := ha1 i o e
      omega)
  have hl1 := S1.out.str.lt
  have hl2 := S2.out.str.lt
  have hl3 := S3.out.str.lt
  clear P s1 ha1 bb hm hbs hw3
  have PL := left11_any g1 100 A1 k1 [192] none w4 S1.out
  go_wp2_with fail
  refine PL.mono ?_
  rintro e w5 ⟨rfl, rfl⟩
  clear PL
  go_wp2_with fail
  generalize hV : w4.alloc _ = V
  have hz : w4.alloc (.cells (arr (bv [0, 224, 0])) 5) = V := hV
  have hB : Blk V w4.heap.size 5 (bv [0, 224, 0]) := by rw [← hz]; exact Blk.new w4 5 _
  have bV : Below w4.heap.size w4 V := by rw [← hz]; exact (Below.refl _ _).alloc (Nat.le_refl _) _
  have hR := hB.rd
  rw [bv_length] at hR
  have S1 := hide (S1.out.keep bV)
  have S2 := hide (S2.out.keep bV)
  have S3 := hide (S3.out.keep bV)
  have BW := hide (below_on BW.out bV)
  have hl1 := S1.out.str.lt
  have hl2 := S2.out.str.lt
  have hl3 := S3.out.str.lt
  have P := feed11_any g1 100 (by omega) A1 k1 [192] none (some ⟨w4.heap.size, 0, none⟩) 3 3 [0, 224, 0] V S1.out hR (by simp)
  unfold RetFeed11 at P
  obtain ⟨f1, f2⟩ := ex11_f2
  rw [f1, f2] at P
  clear hV hz hB bV hR f1 f2
  refine P.mono ?_
  rintro e w6 ⟨O2, ok2, rs2, A2, k2, rfl, hm, -, -, -, -, -, -, -, bb⟩
  have hr2 : rs2.length = 2 := by have := congrArg List.length hm; simpa using this
  rw [hr2]
  have hbs := bb.size
  have hw3 := BW.out.size
  have S2 := hide (S2.out.but bb (fun h => by rcases h with h | h; omega; have := HA1.out _ h; omega) (Off.none_ _))
  have S3 := hide (S3.out.but bb (fun h => by rcases h with h | h; omega; have := HA1.out _ h; omega) (Off.none_ _))
  have BW := hide (But.below BW.out bb (fun i h => by rcases h with h | h; omega; have := HA1.out _ h; omega) hw3)
  clear P bb hm hbs hw3 hr2 S1 hl1 HA1
  go_wp2_with fail
  generalize hV : w6.alloc _ = V
  have hz : w6.alloc (.cells (arr (bv [48, 99])) 5) = V := hV
  have hB : Blk V w6.heap.size 5 (bv [48, 99]) := by rw [← hz]; exact Blk.new w6 5 _
  have bV : Below w6.heap.size w6 V := by rw [← hz]; exact (Below.refl _ _).alloc (Nat.le_refl _) _
  have hR := hB.rd
  rw [bv_length] at hR
  have S3 := hide (S3.out.keep bV)
  have BW := hide (below_on BW.out bV)
  have hl3 := S3.out.str.lt
  have S2 := hide (S2.out.keep bV)
  have P := feed11_any g2 100 (by omega) none 0 [] none (some ⟨w6.heap.size, 0, none⟩) 2 2 [48, 99] V S2.out hR (by simp)
  unfold RetFeed11 at P
  rw [ex11_f3] at P
  clear hV hz hB bV hR
  refine P.mono ?_
  rintro e w7 ⟨O3, ok3, rs3, A3, k3, rfl, -, -, -, -, -, -, -, -, bb⟩
  have hw3 := BW.out.size
  have S3 := hide (S3.out.but bb (fun h => by rcases h with h | ⟨o, h⟩; omega; cases h) (Off.none_ _))
  have BW := hide (But.below BW.out bb (fun i h => by rcases h with h | ⟨o, h⟩; omega; cases h) hw3)
  clear P bb hw3 S2 hl2
  go_wp2_with fail
  generalize hV : w7.alloc _ = V
  have hz : w7.alloc (.cells (arr (bv [192, 0, 193, 0])) 5) = V := hV
  have hB : Blk V w7.heap.size 5 (bv [192, 0, 193, 0]) := by rw [← hz]; exact Blk.new w7 5 _
  have bV : Below w7.heap.size w7 V := by rw [← hz]; exact (Below.refl _ _).alloc (Nat.le_refl _) _
  have hR := hB.rd
  rw [bv_length] at hR
  have S3 := hide (S3.out.keep bV)
  have BW := hide (below_on BW.out bV)
  have hl3 := S3.out.str.lt
  have P := feed11_any g3 100 (by omega) none 0 [] none (some ⟨w7.heap.size, 0, none⟩) 4 4 [192, 0, 193, 0] V S3.out hR (by simp)
  unfold RetFeed11 at P
  obtain ⟨f1, f2⟩ := ex11_f4
  rw [f1, f2] at P
  clear hV hz hB bV hR f1 f2
  refine P.mono ?_
  rintro e w8 ⟨O4, ok4, rs4, A4, k4, rfl, hm, -, -, -, -, -, -, -, bb⟩
  have hr4 : rs4.length = 1 := by have := congrArg List.length hm; simpa using this
  rw [hr4]
  have hw3 := BW.out.size
  have BW := hide (But.below BW.out bb (fun i h => by rcases h with h | ⟨o, h⟩; omega; cases h) hw3)
  clear P bb hw3 S3 hl3 hm hr4
  go_wp2_with fail
  go_ret
  exact ⟨by first | rfl | simp, BW.out⟩

end Go.Proofs.Ytkgidimaiedocaa

namespace Go.Proofs.Ytkgidimaiedocaa
set_option linter.unusedVariables false
set_option linter.unusedSimpArgs false
open Go.RowKit

/-- A packet in a row is read: what the operation yields. -/
theorem exec_loadR {P : Program} {w : World} {o : Oper} {a : Act} (ty : TypeId) (x : Operand) (ho : o.op = .load ty x) (b i : Nat) (r : PkRow)
    (hx : a.eval x = .pointer (some ⟨b, i, none⟩)) (hB : w.rangeAt b i r.vs) {d : TypeDesc} (hu : P.underlying ty = some d) (hd : d.isRow = true) (hi : (P.info? ty).map (·.size) = some 18) :
    (execOp a.eval o).run P w = .ok (.value (pkA r.p r.C r.nc r.kc r.S r.ns r.ks)) w := by
  have hr := run_loadAt_mid (P := P) w b i ty r.vs d hB hu hd hi
  unfold execOp
  simp only [ho, hx, Sem.run_bind, hr, Result.andThen_ok]
  rfl
theorem PRd.at_ {w : World} {O : Option Addr} {rs : List PkRow} (h : PRd w O rs) (k : Nat) (hk : k < rs.length) : ∃ b o, O = some ⟨b, o, none⟩ ∧ b < w.heap.size ∧ ∀ j (hj : j < rs.length), w.rangeAt b (o + j * 18) (rs[j]).vs := by
  obtain ⟨b, o, e, hl, hc⟩ := h.1.at_ (k := k * 18) (by omega)
  refine ⟨b, o, e, hl, fun j hj i v hv => ?_⟩
  have hi : i < 18 := by
    by_cases h18 : i < 18
    · exact h18
    · rw [List.getElem?_eq_none (by rw [PkRow.vs_len]; omega)] at hv
      cases hv
  have := hc (j * 18 + i) v (by rw [prVs_get rs j i hj hi]; exact hv)
  rw [Nat.add_assoc]
  exact this
/-- Their lists are short. -/
def PkT (p : Pk) : Prop := p.codes.length ≤ 65535 ∧ p.subs.length ≤ 65535

set_option maxRecDepth 100000 in
set_option maxHeartbeats 4000000 in
theorem rows11_any (O1 O2 : Option Addr) (k1 k2 : Nat) (rs1 rs2 : List PkRow) (w : World) (h1 : PRd w O1 rs1) (h2 : PRd w O2 rs2) (t1 : ∀ r ∈ rs1, PkT r.p) (t2 : ∀ r ∈ rs2, PkT r.p) (n1 : rs1.length ≤ 65535) (n2 : rs2.length ≤ 65535) :
    Calls Try.prog 14 #[.slice O1 rs1.length k1, .slice O2 rs2.length k2] w fun e w' => e = .returned (.bool (decide (rs1.map PkRow.p = rs2.map PkRow.p))) ∧ Below w.heap.size w w' := by
  have H1 := hide h1
  have H2 := hide h2
  have T1 := hide t1
  have T2 := hide t2
  clear h1 h2 t1 t2
  obtain ⟨R, hR⟩ : ∃ R, decide (rs1.map PkRow.p = rs2.map PkRow.p) = R := ⟨_, rfl⟩
  rw [hR]
  have HR := hide hR
  clear hR
  by_cases hn : rs1.length = rs2.length
  case neg =>
    have q : ((rs1.length : Int) != (rs2.length : Int)) = true := by rw [bne_iff_ne]; omega
    have hr : R = false := by
      rw [← HR.out]
      apply decide_eq_false
      intro e
      have := congrArg List.length e
      simp at this
      exact hn this
    subst hr
    clear hn
    go_enter Try.func14, Try.ntmps14
    go_wp2_with fail
    go_ret
    exact ⟨rfl, Below.refl _ _⟩
  case pos =>
  have Hn := hide hn
  obtain ⟨n, hn1⟩ : ∃ n, rs1.length = n := ⟨_, rfl⟩
  have hn2 : rs2.length = n := by rw [← hn, hn1]
  rw [hn1, hn2]
  have N1 := hide hn1
  have N2 := hide hn2
  rw [hn1] at n1
  clear n2 hn hn1 hn2
  go_enter Try.func14, Try.ntmps14
  go_wp2_with fail
  go_loopw [5] (fun i wr => ∃ k : Nat, i = .int .i64 (k : Int) ∧ k ≤ n ∧ (rs1.take k).map PkRow.p = (rs2.take k).map PkRow.p ∧ Below w.heap.size w wr) (fun i _ => n - (intOf i).toNat)
  case atStart => exact ⟨0, rfl, by omega, rfl, Below.refl _ _⟩
  case round =>
    obtain ⟨k, rfl, hkn, hall, hbr⟩ := hrel
    have Hall := hide hall
    have Hbr := hide hbr
    clear hall hbr
    by_cases hlt : k < n
    · have q1 : (k : Int) < (n : Int) := by omega
      have hl1 : k < rs1.length := by rw [N1.out]; exact hlt
      have hl2 : k < rs2.length := by rw [N2.out]; exact hlt
      obtain ⟨b1, o1, rfl, hb1, hc1⟩ := H1.out.at_ k hl1
      obtain ⟨b2, o2, rfl, hb2, hc2⟩ := H2.out.at_ k hl2
      have tk1 : rs1.take (k + 1) = rs1.take k ++ [rs1[k]] := (List.take_append_getElem hl1).symm
      have tk2 : rs2.take (k + 1) = rs2.take k ++ [rs2[k]] := (List.take_append_getElem hl2).symm
      have m1 := List.getElem_mem hl1
      have m2 := List.getElem_mem hl2
      have G1 := hide (show ∀ W, Below w.heap.size w W → W.rangeAt b1 (o1 + k * 18) (rs1[k]).vs from fun W b j v hv => (b.cell (p := ⟨b1, o1 + k * 18 + j, none⟩) hb1).trans (hc1 k hl1 j v hv))
      have G2 := hide (show ∀ W, Below w.heap.size w W → W.rangeAt b2 (o2 + k * 18) (rs2[k]).vs from fun W b j v hv => (b.cell (p := ⟨b2, o2 + k * 18 + j, none⟩) hb2).trans (hc2 k hl2 j v hv))
      have PS := hide (show ∀ W, Below w.heap.size w W → Calls Try.prog 31 #[pkA rs1[k].p rs1[k].C rs1[k].nc rs1[k].kc rs1[k].S rs1[k].ns rs1[k].ks, pkA rs2[k].p rs2[k].C rs2[k].nc rs2[k].kc rs2[k].S rs2[k].ns rs2[k].ks] W (fun e w' => e = .returned (.bool (decide (rs1[k].p = rs2[k].p))) ∧ Below W.heap.size W w') from fun W b => same_any rs1[k].p rs2[k].p rs1[k].C rs2[k].C rs1[k].nc rs1[k].kc rs2[k].nc rs2[k].kc rs1[k].S rs2[k].S rs1[k].ns rs1[k].ks rs2[k].ns rs2[k].ks W ((H1.out.2 _ m1).keep b) ((H2.out.2 _ m2).keep b) (Nat.le_trans (T1.out _ m1).1 (by omega)) (Nat.le_trans (T1.out _ m1).2 (by omega)) (Nat.le_trans (T2.out _ m2).1 (by omega)) (Nat.le_trans (T2.out _ m2).2 (by omega)))
      have hdec : decide (rs1[k].p = rs2[k].p) = false → R = false := fun hd => by
        rw [← HR.out]
        apply decide_eq_false
        intro e
        have h1 : (rs1.map PkRow.p)[k]? = (rs2.map PkRow.p)[k]? := by rw [e]
        rw [List.getElem?_map, List.getElem?_map, List.getElem?_eq_getElem hl1, List.getElem?_eq_getElem hl2] at h1
        simp only [Option.map_some, Option.some.injEq] at h1
        rw [h1] at hd
        simp at hd
      have hdt : decide (rs1[k].p = rs2[k].p) = true → (rs1.take (k + 1)).map PkRow.p = (rs2.take (k + 1)).map PkRow.p := fun hd => by
        rw [tk1, tk2, List.map_append, List.map_append, Hall.out]
        have := of_decide_eq_true hd
        simp [this]
      generalize rs1[k] = r1 at *
      generalize rs2[k] = r2 at *
      obtain ⟨dd, hdd⟩ : ∃ dd, decide (r1.p = r2.p) = dd := ⟨_, rfl⟩
      rw [hdd] at PS hdec hdt
      have Hdec := hide hdec
      have Hdt := hide hdt
      clear hdd hdec hdt tk1 tk2 m1 m2 hc1 hc2 hl1 hl2
      go_upto_region 6 with fail
      refine wp_region_held_drew (S := fun Z => Below wr.heap.size wr Z) (by kernel_rfl) ?_ (fun hHeld => ?_)
      · exact (Below.refl _ _).drew
      refine wpAnyH_take (i := 0) (oi := { dst := some 17, op := _, type := _, pos := _, after := _, guard := _ }) (v := ?v2x1) rfl (by kernel_rfl) (by kernel_rfl) (by kernel_rfl) (fun _ _ _ h => h) (Or.inl ⟨by rfl, ?hy2x1⟩) hHeld ?rest2x1
      case hy2x1 => (intro w hSw; go_simp <;> with_reducible rfl)
      try simp only [Act.put, List.setIfInBounds_toArray, List.set_cons_zero, List.set_cons_succ]
      refine wpAnyH_take (i := 1) (oi := { dst := some 18, op := _, type := _, pos := _, after := _, guard := _ }) (v := ?v2x2) rfl (by kernel_rfl) (by kernel_rfl) (by kernel_rfl) (fun _ _ _ h => h) (Or.inl ⟨by rfl, ?hy2x2⟩) hHeld ?rest2x2
      case hy2x2 => (intro w hSw; go_simp <;> with_reducible rfl)
      try simp only [Act.put, List.setIfInBounds_toArray, List.set_cons_zero, List.set_cons_succ]
      refine wpAnyH_take (i := 2) (oi := { dst := some 19, op := _, type := _, pos := _, after := _, guard := _ }) (v := ?v2x3) rfl (by kernel_rfl) (by kernel_rfl) (by kernel_rfl) (fun _ _ _ h => h) (Or.inl ⟨by rfl, ?hy2x3⟩) hHeld ?rest2x3
      case hy2x3 => (intro w hSw; go_simp <;> with_reducible rfl)
      try simp only [Act.put, List.setIfInBounds_toArray, List.set_cons_zero, List.set_cons_succ]
      refine wpAnyH_take (i := 3) (oi := { dst := some 20, op := _, type := _, pos := _, after := _, guard := _ }) (v := ?v2x4) rfl (by kernel_rfl) (by kernel_rfl) (by kernel_rfl) (fun _ _ _ h => h) (Or.inl ⟨by rfl, ?hy2x4⟩) hHeld ?rest2x4
      case hy2x4 => (intro w hSw; refine exec_loadR 35 (.tmp 19) ?_ b1 (o1 + k * 18) r1 ?_ (G1.out _ (below_on Hbr.out hSw)) Try.underlying35 ?_ ?_; rfl; rfl; rfl; kernel_rfl)
      try simp only [Act.put, List.setIfInBounds_toArray, List.set_cons_zero, List.set_cons_succ]
      refine wpAnyH_take (i := 4) (oi := { dst := some 21, op := _, type := _, pos := _, after := _, guard := _ }) (v := ?v2x5) rfl (by kernel_rfl) (by kernel_rfl) (by kernel_rfl) (fun _ _ _ h => h) (Or.inl ⟨by rfl, ?hy2x5⟩) hHeld ?rest2x5
      case hy2x5 => (intro w hSw; go_simp <;> with_reducible rfl)
      try simp only [Act.put, List.setIfInBounds_toArray, List.set_cons_zero, List.set_cons_succ]
      refine wpAnyH_take (i := 5) (oi := { dst := some 22, op := _, type := _, pos := _, after := _, guard := _ }) (v := ?v2x6) rfl (by kernel_rfl) (by kernel_rfl) (by kernel_rfl) (fun _ _ _ h => h) (Or.inl ⟨by rfl, ?hy2x6⟩) hHeld ?rest2x6
      case hy2x6 => (intro w hSw; go_simp <;> with_reducible rfl)
      try simp only [Act.put, List.setIfInBounds_toArray, List.set_cons_zero, List.set_cons_succ]
      refine wpAnyH_take (i := 6) (oi := { dst := some 23, op := _, type := _, pos := _, after := _, guard := _ }) (v := ?v2x7) rfl (by kernel_rfl) (by kernel_rfl) (by kernel_rfl) (fun _ _ _ h => h) (Or.inl ⟨by rfl, ?hy2x7⟩) hHeld ?rest2x7
      case hy2x7 => (intro w hSw; go_simp <;> with_reducible rfl)
      try simp only [Act.put, List.setIfInBounds_toArray, List.set_cons_zero, List.set_cons_succ]
      refine wpAnyH_take (i := 7) (oi := { dst := some 24, op := _, type := _, pos := _, after := _, guard := _ }) (v := ?v2x8) rfl (by kernel_rfl) (by kernel_rfl) (by kernel_rfl) (fun _ _ _ h => h) (Or.inl ⟨by rfl, ?hy2x8⟩) hHeld ?rest2x8
      case hy2x8 => (intro w hSw; refine exec_loadR 35 (.tmp 23) ?_ b2 (o2 + k * 18) r2 ?_ (G2.out _ (below_on Hbr.out hSw)) Try.underlying35 ?_ ?_; rfl; rfl; rfl; kernel_rfl)
      try simp only [Act.put, List.setIfInBounds_toArray, List.set_cons_zero, List.set_cons_succ]
      refine wpAnyH_ready (rs := [8]) (by kernel_rfl) (by simp) (AllReadyH.cons (o := { dst := some 25, op := _, type := _, pos := _, after := _, guard := _ }) rfl (fun K hK => ?_) AllReadyH.nil)
      go_simp
      refine (PS.out _ (below_on Hbr.out hHeld)).mono ?_
      rintro e w6 ⟨rfl, b6⟩
      have s6 := below_on hHeld b6
      go_wp2_with fail
      refine hK.out _ _ ?_ (fun hHeld => ?_)
      · exact below_on hHeld b6
      clear hK K
      try simp only [Act.put, List.setIfInBounds_toArray, List.set_cons_zero, List.set_cons_succ]
      refine wpAnyH_strong (S' := fun w' => Below w6.heap.size w6 w') (by intro w' h; exact below_on hHeld h) ?_
      replace hHeld : (fun w' => Below w6.heap.size w6 w') _ := Below.refl _ _
      refine wpAnyH_take (i := 9) (oi := { dst := some 26, op := _, type := _, pos := _, after := _, guard := _ }) (v := ?v2x10) rfl (by kernel_rfl) (by kernel_rfl) (by kernel_rfl) (fun _ _ _ h => h) (Or.inl ⟨by rfl, ?hy2x10⟩) hHeld ?rest2x10
      case hy2x10 => (intro w hSw; go_simp <;> with_reducible rfl)
      try simp only [Act.put, List.setIfInBounds_toArray, List.set_cons_zero, List.set_cons_succ]
      refine wpAnyH_done (by kernel_rfl) ?_ _
      clear G1 G2 PS
      cases dd with
      | false =>
        obtain rfl := Hdec.out rfl
        go_wp2_with fail
        go_ret
        exact ⟨rfl, below_on Hbr.out s6⟩
      | true =>
        have hnx := hide (Hdt.out rfl)
        go_wp2_with fail
        exact ⟨⟨k + 1, by go_num, by omega, hnx.out, below_on Hbr.out s6⟩, by simp [intOf]; omega⟩
    · obtain rfl : k = n := by omega
      have q1 : ¬ (k : Int) < (k : Int) := by omega
      have hr : R = true := by
        rw [← HR.out]
        apply decide_eq_true
        have := Hall.out
        rwa [List.take_of_length_le (by rw [N1.out]; exact Nat.le_refl _), List.take_of_length_le (by rw [N2.out]; exact Nat.le_refl _)] at this
      subst hr
      go_wp2_with fail
      go_ret
      exact ⟨rfl, Hbr.out⟩

end Go.Proofs.Ytkgidimaiedocaa

namespace Go.Proofs.Ytkgidimaiedocaa
set_option linter.unusedVariables false
set_option linter.unusedSimpArgs false
open Go.RowKit

/-- Fed in two parts. -/
theorem fd_parts11 (most : Nat) (a b : List UInt8) : toP most (a ++ b) = fdT11 most [] none a ++ fdT11 most (fdL11 most [] none a) (fdF11 most [] none a) b ∧ erP most (a ++ b) = fdE11 most (fdL11 most [] none a) (fdF11 most [] none a) b ∧ lfP most (a ++ b) = fdL11 most (fdL11 most [] none a) (fdF11 most [] none a) b ∧ (fdE11 most [] none a = 0 ∨ fdE11 most [] none a = erP most (a ++ b)) := by
  have h := cutAll_parts (stCuts most) a b
  simp only [fdT11, fdL11, fdF11, fdE11, List.nil_append]
  cases hb : brP most a with
  | true =>
    have hb' : (cutAll (stNx most) a).2.2 = true := hb
    rw [hb'] at h
    simp only [if_true] at h
    have hr := cutAll_badleft (stCuts most) _ a (Nat.le_refl _) hb'
    have e1 : brP most (a ++ b) = true := by unfold brP; rw [h]
    have e2 : erP most (a ++ b) = erP most a := by
      unfold erP
      rw [e1, hb, h]
      exact stC_app most _ b hr
    simp only [if_true]
    refine ⟨?_, ?_, ?_, Or.inr e2.symm⟩
    · unfold toP
      rw [h, List.append_nil]
    · exact e2
    · unfold lfP
      rw [e1, hb]
      rfl
  | false =>
    have hb' : (cutAll (stNx most) a).2.2 = false := hb
    have e0 : lfP most a = (cutAll (stNx most) a).2.1 := by unfold lfP; rw [hb]; rfl
    rw [hb', ← e0] at h
    simp only [Bool.false_eq_true, if_false] at h ⊢
    have e1 : brP most (a ++ b) = brP most (lfP most a ++ b) := by unfold brP; rw [h]
    refine ⟨?_, ?_, ?_, Or.inl ?_⟩
    · unfold toP
      rw [h]
    · unfold erP
      rw [e1, h]
    · have e3 : (cutAll (stNx most) (a ++ b)).2.1 = (cutAll (stNx most) (lfP most a ++ b)).2.1 := by rw [h]
      unfold lfP at e1 e3 ⊢
      rw [e1, e3]
    · unfold erP
      rw [hb]
      rfl
theorem own_emptyP (w : World) : (w.alloc (.cells #[] 35)).ownsRow w.heap.size 35 18 (.slice (some ⟨w.heap.size, 0, none⟩) 0 0) 0 [] :=
  ⟨rfl, .inr ⟨w.heap.size, 0, #[], rfl, Nat.le_refl _, Blk.new w 35 [], Nat.le_refl _, by decide, rfl, rfl⟩⟩
theorem prVs_one (rs : List PkRow) : ∀ u ∈ prVs rs, u.oneCell' = true := by
  intro u hu
  simp only [prVs, List.mem_flatMap] at hu
  obtain ⟨r, _, hr⟩ := hu
  exact PkRow.one r u hr
/-- What is told may be, and is no longer than the bytes. -/
theorem toP_may (most : Nat) : ∀ (k : Nat) (xs : List UInt8), xs.length ≤ k → ∀ p ∈ toP most xs, mayP p = true ∧ (layP p).length ≤ xs.length := by
  intro k
  induction k using Nat.strongRecOn with
  | ind k ih =>
    intro x hk p hp
    unfold toP at hp
    match hn : stNx most x with
    | .wait => rw [cutAll_wait x (stCuts most) hn] at hp; cases hp
    | .bad => rw [cutAll_bad x (stCuts most) hn] at hp; cases hp
    | .cut a n =>
      obtain ⟨h1, h2, h3, h4, h5⟩ := stNx_back most x a n hn
      rw [cutAll_cut x (stCuts most) a n hn] at hp
      have hl : (x.drop n).length < k := by rw [List.length_drop]; omega
      rcases List.mem_cons.1 hp with rfl | hp
      · refine ⟨h1, ?_⟩
        rw [h2, List.length_take]
        omega
      · have := ih (x.drop n).length hl (x.drop n) (Nat.le_refl _) p hp
        refine ⟨this.1, ?_⟩
        have h6 := this.2
        rw [List.length_drop] at h6
        omega

theorem readP_short11 {bs : List UInt8} {p : Pk} (hl : bs.length ≤ 65535) (h : readP bs = some p) : PkS p := by
  rw [← parseQ_eq] at h
  unfold parseQ at h
  cases hq : readQ bs with
  | none => rw [hq] at h; cases h
  | some q =>
    rw [hq] at h
    simp only at h
    split at h
    · injection h with h
      rw [← h]
      exact readQ_short hl hq
    · cases h
theorem may_short {p : Pk} (h : mayP p = true) (hl : (layP p).length ≤ 65535) : PkS p := readP_short11 hl (readP_lay h)
theorem toP_short (most : Nat) (xs : List UInt8) (h : xs.length ≤ 65535) : ∀ p ∈ toP most xs, PkS p := fun p hp => by
  obtain ⟨h1, h2⟩ := toP_may most _ xs (Nat.le_refl _) p hp
  exact may_short h1 (by omega)
theorem PRd.but {T : Nat → Prop} {w w' : World} {O : Option Addr} {rs : List PkRow} (h : PRd w O rs) (b : But T w w') (o : Off T O) (r : ∀ r ∈ rs, r.off T) : PRd w' O rs :=
  ⟨h.1.but b o, fun q hq => (h.2 q hq).but b (r q hq)⟩
/-- The bytes of packets, one after the other. -/
def lysL (ps : List Pk) : List UInt8 := ps.flatMap layP
theorem lysL_app (a b : List Pk) : lysL (a ++ b) = lysL a ++ lysL b := List.flatMap_append
theorem toP_all (most : Nat) (xs : List UInt8) : xs = lysL (toP most xs) ++ (cutAll (stNx most) xs).2.1 := by
  have key : ∀ (k : Nat) (xs : List UInt8), xs.length ≤ k → xs = lysL (toP most xs) ++ (cutAll (stNx most) xs).2.1 := by
    intro k
    induction k using Nat.strongRecOn with
    | ind k ih =>
      intro x hk
      unfold toP
      match hn : stNx most x with
      | .wait => rw [cutAll_wait x (stCuts most) hn]; rfl
      | .bad => rw [cutAll_bad x (stCuts most) hn]; rfl
      | .cut a n =>
        obtain ⟨h1, h2, h3, h4, h5⟩ := stNx_back most x a n hn
        rw [cutAll_cut x (stCuts most) a n hn]
        have hl : (x.drop n).length < k := by rw [List.length_drop]; omega
        have := ih (x.drop n).length hl (x.drop n) (Nat.le_refl _)
        unfold toP at this
        show x = lysL (a :: _) ++ _
        rw [lysL, List.flatMap_cons, h2, List.append_assoc, ← lysL]
        have e : x = x.take n ++ x.drop n := (List.take_append_drop n x).symm
        rw [← this]
        exact e
  exact key _ xs (Nat.le_refl _)
theorem toP_ok (most : Nat) (xs : List UInt8) : ∀ p ∈ toP most xs, mayP p = true ∧ (layP p).length ≤ most := by
  have key : ∀ (k : Nat) (xs : List UInt8), xs.length ≤ k → ∀ p ∈ toP most xs, mayP p = true ∧ (layP p).length ≤ most := by
    intro k
    induction k using Nat.strongRecOn with
    | ind k ih =>
      intro x hk p hp
      unfold toP at hp
      match hn : stNx most x with
      | .wait => rw [cutAll_wait x (stCuts most) hn] at hp; cases hp
      | .bad => rw [cutAll_bad x (stCuts most) hn] at hp; cases hp
      | .cut a n =>
        obtain ⟨h1, h2, h3, h4, h5⟩ := stNx_back most x a n hn
        rw [cutAll_cut x (stCuts most) a n hn] at hp
        have hl : (x.drop n).length < k := by rw [List.length_drop]; omega
        rcases List.mem_cons.1 hp with rfl | hp
        · refine ⟨h1, ?_⟩
          rw [h2, List.length_take]
          omega
        · exact ih (x.drop n).length hl (x.drop n) (Nat.le_refl _) p hp
  exact key _ xs (Nat.le_refl _)
theorem left_step11 (xs : List UInt8) (T : List Pk) (R : List UInt8) (h : xs = lysL T ++ R) (i : Nat) (p : Pk) (hi : T[i]? = some p) :
    (xs.drop (lysL (T.take i)).length).take (layP p).length = layP p ∧ (lysL (T.take i)).length + (layP p).length ≤ xs.length ∧ (lysL (T.take (i + 1))).length = (lysL (T.take i)).length + (layP p).length := by
  obtain ⟨hlt, hge⟩ := List.getElem?_eq_some_iff.1 hi
  have e1 : T = T.take i ++ p :: T.drop (i + 1) := by
    rw [← hge, List.getElem_cons_drop, List.take_append_drop]
  have e2 : xs = lysL (T.take i) ++ (layP p ++ (lysL (T.drop (i + 1)) ++ R)) := by
    rw [h]
    conv => lhs; rw [e1]
    rw [lysL_app, show lysL (p :: T.drop (i + 1)) = layP p ++ lysL (T.drop (i + 1)) from List.flatMap_cons]
    simp
  refine ⟨?_, ?_, ?_⟩
  · rw [e2, List.drop_left, List.take_left]
  · have := congrArg List.length e2
    simp only [List.length_append] at this
    omega
  · rw [List.take_succ_eq_append_getElem hlt, lysL_app, List.length_append, hge]
    show _ + (layP p ++ []).length = _
    rw [List.append_nil]
/-- A packet in a row is read. -/
theorem wpList_loadR {P : Program} {w : World} {ops : Array Oper} {rest : List Oper} {o : Oper} {a : Act} {Q : Exit → Act → World → Prop} (hgd : o.guard = none) (ty : TypeId) (x : Operand) (ho : o.op = .load ty x) (b i : Nat) (r : PkRow)
    (hx : a.eval x = .pointer (some ⟨b, i, none⟩)) (hB : w.rangeAt b i r.vs) {d : TypeDesc} (hu : P.underlying ty = some d) (hd : d.isRow = true) (hi : (P.info? ty).map (·.size) = some 18)
    (h : wpList P ops Q rest (a.put o.dst (pkA r.p r.C r.nc r.kc r.S r.ns r.ks)) w) : wpList P ops Q (o :: rest) a w := by
  refine wpList_plain hgd fun K hK => ?_
  have hr := exec_loadR (P := P) (w := w) (o := o) (a := a) ty x ho b i r hx hB hu hd hi
  unfold Oper.wp
  rw [hr]
  exact hK _ _ h

end Go.Proofs.Ytkgidimaiedocaa
