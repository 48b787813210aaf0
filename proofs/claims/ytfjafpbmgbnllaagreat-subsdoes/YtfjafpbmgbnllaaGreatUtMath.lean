/-
  What is proved here: points and their bytes as plain functions (enc; goP, which reads bytes one by one as package utf does): what is laid down is read as itself, and only that is read. Plain lists, nothing of the program. No condition.
-/
import Derived.Test.YtfjafpbmgbnllaaGreatBase
namespace Go.Proofs.YtfjafpbmgbnllaaGreat
set_option linter.unusedVariables false
set_option linter.unusedSimpArgs false
open Go.RowKit

/-- Is a number a point? -/
def isPt (n : Int) : Bool := decide (1 ≤ n ∧ n ≤ 1114111 ∧ (n < 55296 ∨ 57343 < n))
theorem isPt_nat {n : Int} (h : isPt n = true) : ∃ k : Nat, n = (k : Int) ∧ 1 ≤ k ∧ k ≤ 1114111 := by
  simp only [isPt, decide_eq_true_eq] at h
  exact ⟨n.toNat, by omega, by omega, by omega⟩
theorem isPt_iff (n : Nat) : isPt (n : Int) = true ↔ 1 ≤ n ∧ n ≤ 1114111 ∧ (n < 55296 ∨ 57343 < n) := by
  simp only [isPt, decide_eq_true_eq]
  omega
/-- How many bytes a point has. -/
def szP (n : Nat) : Nat := if n < 128 then 1 else if n < 2048 then 2 else if n < 65536 then 3 else 4
/-- Its bytes. -/
def enc (n : Nat) : List UInt8 :=
  if n < 128 then [UInt8.ofNat n] else if n < 2048 then [UInt8.ofNat (192 + n / 64), UInt8.ofNat (128 + n % 64)]
  else if n < 65536 then [UInt8.ofNat (224 + n / 4096), UInt8.ofNat (128 + n / 64 % 64), UInt8.ofNat (128 + n % 64)]
  else [UInt8.ofNat (240 + n / 262144), UInt8.ofNat (128 + n / 4096 % 64), UInt8.ofNat (128 + n / 64 % 64), UInt8.ofNat (128 + n % 64)]
theorem enc_length (n : Nat) : (enc n).length = szP n := by
  unfold enc szP
  repeat' split
  all_goals rfl
theorem szP_le (n : Nat) : 1 ≤ szP n ∧ szP n ≤ 4 := by
  unfold szP
  repeat' split
  all_goals omega

/-- The digit of a first byte; how many bytes its point has. -/
def fdig (c : Nat) : Nat := if c < 128 then c else if c < 192 then 0 else if c < 224 then c - 192 else if c < 240 then c - 224 else c - 240
def fsz (c : Nat) : Nat := if c < 192 then 1 else if c < 224 then 2 else if c < 240 then 3 else 4
/-- A point that has all of its bytes is taken, or refused. -/
def finP (p s l : Nat) (r : Option (List Nat)) : Option (List Nat) := if 0 < l then r else if isPt p ∧ szP p = s then r.map (p :: ·) else none
/-- Bytes read one by one: p is what was read of a point of s bytes, l of which are to come. -/
def goP (p s l : Nat) : List UInt8 → Option (List Nat)
  | [] => if l = 0 then some [] else none
  | c :: cs =>
    if l = 0 then finP (fdig c.toNat) (fsz c.toNat) (fsz c.toNat - 1) (goP (fdig c.toNat) (fsz c.toNat) (fsz c.toNat - 1) cs)
    else if 128 ≤ c.toNat ∧ c.toNat < 192 then finP (p * 64 + (c.toNat - 128)) s (l - 1) (goP (p * 64 + (c.toNat - 128)) s (l - 1) cs) else none

theorem goP_zero (p s : Nat) (xs : List UInt8) : goP p s 0 xs = goP 0 0 0 xs := by
  cases xs <;> simp [goP]
/-- The points of bytes; none: they are no string. -/
def ptsL (xs : List UInt8) : Option (List Nat) := goP 0 0 0 xs
theorem ptsL_nil : ptsL [] = some [] := rfl

theorem finP_go {p s l : Nat} (h : 0 < l) (r : Option (List Nat)) : finP p s l r = r := by simp [finP, h]
theorem finP_ok {p s : Nat} (h : isPt p = true) (h2 : szP p = s) (r : Option (List Nat)) : finP p s 0 r = r.map (p :: ·) := by simp [finP, h, h2]
theorem finP_no {p s : Nat} (h : ¬ (isPt p = true ∧ szP p = s)) (r : Option (List Nat)) : finP p s 0 r = none := by
  unfold finP
  rw [if_neg (by omega), if_neg h]
theorem u8n {n : Nat} (h : n < 256) : (UInt8.ofNat n).toNat = n := by simp; omega

theorem goP_first (p s : Nat) (c : UInt8) (cs : List UInt8) : goP p s 0 (c :: cs) = finP (fdig c.toNat) (fsz c.toNat) (fsz c.toNat - 1) (goP (fdig c.toNat) (fsz c.toNat) (fsz c.toNat - 1) cs) := by
  rw [goP, if_pos rfl]
theorem goP_rest (p s l : Nat) (c : UInt8) (cs : List UInt8) (h : 0 < l) (h1 : 128 ≤ c.toNat) (h2 : c.toNat < 192) : goP p s l (c :: cs) = finP (p * 64 + (c.toNat - 128)) s (l - 1) (goP (p * 64 + (c.toNat - 128)) s (l - 1) cs) := by
  rw [goP, if_neg (by omega), if_pos ⟨h1, h2⟩]
theorem goP_bad (p s l : Nat) (c : UInt8) (cs : List UInt8) (h : 0 < l) (h1 : ¬ (128 ≤ c.toNat ∧ c.toNat < 192)) : goP p s l (c :: cs) = none := by
  rw [goP, if_neg (by omega), if_neg h1]

theorem fdig2 {m : Nat} (h : m < 32) : fdig (192 + m) = m := by unfold fdig; rw [if_neg (by omega), if_neg (by omega), if_pos (by omega)]; omega
theorem fdig3 {m : Nat} (h : m < 16) : fdig (224 + m) = m := by unfold fdig; rw [if_neg (by omega), if_neg (by omega), if_neg (by omega), if_pos (by omega)]; omega
theorem fdig4 (m : Nat) : fdig (240 + m) = m := by unfold fdig; rw [if_neg (by omega), if_neg (by omega), if_neg (by omega), if_neg (by omega)]; omega
theorem fsz2 {m : Nat} (h : m < 32) : fsz (192 + m) = 2 := by unfold fsz; rw [if_neg (by omega), if_pos (by omega)]
theorem fsz3 {m : Nat} (h : m < 16) : fsz (224 + m) = 3 := by unfold fsz; rw [if_neg (by omega), if_neg (by omega), if_pos (by omega)]
theorem fsz4 (m : Nat) : fsz (240 + m) = 4 := by unfold fsz; rw [if_neg (by omega), if_neg (by omega), if_neg (by omega)]

/-- A point ahead of any bytes is read as itself. -/
theorem ptsL_enc (n : Nat) (h : isPt n = true) (xs : List UInt8) : ptsL (enc n ++ xs) = (ptsL xs).map (n :: ·) := by
  have hb := (isPt_iff n).1 h
  unfold ptsL enc
  by_cases h1 : n < 128
  · rw [if_pos h1]
    have e : (UInt8.ofNat n).toNat = n := u8n (by omega)
    show goP 0 0 0 (UInt8.ofNat n :: xs) = _
    have d1 : fdig n = n := by unfold fdig; rw [if_pos h1]
    have d2 : fsz n = 1 := by unfold fsz; rw [if_pos (by omega)]
    rw [goP_first, e, d1, d2, goP_zero, finP_ok h (by unfold szP; rw [if_pos h1])]
  rw [if_neg h1]
  by_cases h2 : n < 2048
  · rw [if_pos h2]
    show goP 0 0 0 (UInt8.ofNat (192 + n / 64) :: UInt8.ofNat (128 + n % 64) :: xs) = _
    rw [goP_first, u8n (by omega), fdig2 (by omega), fsz2 (by omega), finP_go (by omega), goP_rest _ _ _ _ _ (by omega) (by rw [u8n (by omega)]; omega) (by rw [u8n (by omega)]; omega), u8n (by omega)]
    have e : n / 64 * 64 + (128 + n % 64 - 128) = n := by omega
    rw [e, goP_zero, finP_ok h (by unfold szP; rw [if_neg h1, if_pos h2])]
  rw [if_neg h2]
  by_cases h3 : n < 65536
  · rw [if_pos h3]
    show goP 0 0 0 (UInt8.ofNat (224 + n / 4096) :: UInt8.ofNat (128 + n / 64 % 64) :: UInt8.ofNat (128 + n % 64) :: xs) = _
    rw [goP_first, u8n (by omega), fdig3 (by omega), fsz3 (by omega), finP_go (by omega), goP_rest _ _ _ _ _ (by omega) (by rw [u8n (by omega)]; omega) (by rw [u8n (by omega)]; omega), u8n (by omega), finP_go (by omega), goP_rest _ _ _ _ _ (by omega) (by rw [u8n (by omega)]; omega) (by rw [u8n (by omega)]; omega), u8n (by omega)]
    have e : (n / 4096 * 64 + (128 + n / 64 % 64 - 128)) * 64 + (128 + n % 64 - 128) = n := by omega
    rw [e, goP_zero, finP_ok h (by unfold szP; rw [if_neg h1, if_neg h2, if_pos h3])]
  rw [if_neg h3]
  show goP 0 0 0 (UInt8.ofNat (240 + n / 262144) :: UInt8.ofNat (128 + n / 4096 % 64) :: UInt8.ofNat (128 + n / 64 % 64) :: UInt8.ofNat (128 + n % 64) :: xs) = _
  rw [goP_first, u8n (by omega), fdig4, fsz4, finP_go (by omega), goP_rest _ _ _ _ _ (by omega) (by rw [u8n (by omega)]; omega) (by rw [u8n (by omega)]; omega), u8n (by omega), finP_go (by omega), goP_rest _ _ _ _ _ (by omega) (by rw [u8n (by omega)]; omega) (by rw [u8n (by omega)]; omega), u8n (by omega),
    finP_go (by omega), goP_rest _ _ _ _ _ (by omega) (by rw [u8n (by omega)]; omega) (by rw [u8n (by omega)]; omega), u8n (by omega)]
  have e : ((n / 262144 * 64 + (128 + n / 4096 % 64 - 128)) * 64 + (128 + n / 64 % 64 - 128)) * 64 + (128 + n % 64 - 128) = n := by omega
  rw [e, goP_zero, finP_ok h (by unfold szP; rw [if_neg h1, if_neg h2, if_neg h3])]

/-- What was read of a point, with what is still to come. -/
theorem fin_some {p s : Nat} {r : Option (List Nat)} {ps : List Nat} (h : finP p s 0 r = some ps) : isPt p = true ∧ szP p = s ∧ ∃ qs, r = some qs ∧ ps = p :: qs := by
  unfold finP at h
  rw [if_neg (by omega)] at h
  split at h
  · rename_i hc
    obtain ⟨qs, h1, h2⟩ := Option.map_eq_some_iff.1 h
    exact ⟨hc.1, hc.2, qs, h1, h2.symm⟩
  · cases h
theorem go_some {p s l : Nat} {xs ps} (h : goP p s (l + 1) xs = some ps) : ∃ c cs, xs = c :: cs ∧ 128 ≤ c.toNat ∧ c.toNat < 192 ∧ finP (p * 64 + (c.toNat - 128)) s l (goP (p * 64 + (c.toNat - 128)) s l cs) = some ps := by
  cases xs with
  | nil => simp [goP] at h
  | cons c cs =>
    by_cases hc : 128 ≤ c.toNat ∧ c.toNat < 192
    · rw [goP_rest _ _ _ _ _ (by omega) hc.1 hc.2] at h
      exact ⟨c, cs, rfl, hc.1, hc.2, h⟩
    · rw [goP_bad _ _ _ _ _ (by omega) hc] at h
      cases h

theorem u8eq {c : UInt8} {n : Nat} (h : c.toNat = n) : c = UInt8.ofNat n := by rw [← h]; simp

/-- Only points are read: what is read begins with the bytes of a point. -/
theorem ptsL_some {xs : List UInt8} {ps : List Nat} (h : ptsL xs = some ps) : (xs = [] ∧ ps = []) ∨ ∃ (n : Nat) (qs : List Nat) (ys : List UInt8), isPt (n : Int) = true ∧ ps = n :: qs ∧ xs = enc n ++ ys ∧ ptsL ys = some qs := by
  unfold ptsL at h
  cases xs with
  | nil =>
    left
    simp [goP] at h
    exact ⟨rfl, h⟩
  | cons c cs =>
    right
    rw [goP_first] at h
    have hc := c.toNat_lt
    by_cases c1 : c.toNat < 192
    · have e2 : fsz c.toNat = 1 := by unfold fsz; rw [if_pos c1]
      rw [e2] at h
      obtain ⟨k1, k2, qs, k3, k4⟩ := fin_some h
      have kb := (isPt_iff _).1 k1
      have e1 : c.toNat < 128 := by
        rcases Nat.lt_or_ge c.toNat 128 with h1 | h1
        · exact h1
        · have : fdig c.toNat = 0 := by unfold fdig; rw [if_neg (by omega), if_pos c1]
          omega
      have e3 : fdig c.toNat = c.toNat := by unfold fdig; rw [if_pos e1]
      rw [e3] at k1 k3 k4
      refine ⟨c.toNat, qs, cs, k1, k4, ?_, by rw [← k3, goP_zero]; rfl⟩
      unfold enc
      rw [if_pos e1]
      simp
    by_cases c2 : c.toNat < 224
    · obtain ⟨m, hm⟩ : ∃ m, c.toNat = 192 + m := ⟨c.toNat - 192, by omega⟩
      rw [hm, fdig2 (by omega), fsz2 (by omega), finP_go (by omega)] at h
      obtain ⟨d, ds, rfl, d1, d2, h⟩ := go_some h
      obtain ⟨k1, k2, qs, k3, k4⟩ := fin_some h
      obtain ⟨n, hn⟩ : ∃ n, m * 64 + (d.toNat - 128) = n := ⟨_, rfl⟩
      rw [hn] at k1 k2 k3 k4
      have kb := (isPt_iff _).1 k1
      unfold szP at k2
      have n1 : ¬ n < 128 := by intro hh; rw [if_pos hh] at k2; omega
      rw [if_neg n1] at k2
      have n2 : n < 2048 := by omega
      refine ⟨n, qs, ds, k1, k4, ?_, by rw [← k3, goP_zero]; rfl⟩
      unfold enc
      rw [if_neg n1, if_pos n2, u8eq hm, u8eq (show d.toNat = 128 + n % 64 by omega), show m = n / 64 by omega]
      rfl
    by_cases c3 : c.toNat < 240
    · obtain ⟨m, hm⟩ : ∃ m, c.toNat = 224 + m := ⟨c.toNat - 224, by omega⟩
      rw [hm, fdig3 (by omega), fsz3 (by omega), finP_go (by omega)] at h
      obtain ⟨d, ds, rfl, d1, d2, h⟩ := go_some h
      rw [finP_go (by omega)] at h
      obtain ⟨f, fs, rfl, f1, f2, h⟩ := go_some h
      obtain ⟨k1, k2, qs, k3, k4⟩ := fin_some h
      obtain ⟨n, hn⟩ : ∃ n, (m * 64 + (d.toNat - 128)) * 64 + (f.toNat - 128) = n := ⟨_, rfl⟩
      rw [hn] at k1 k2 k3 k4
      have kb := (isPt_iff _).1 k1
      unfold szP at k2
      have n1 : ¬ n < 128 := by intro hh; rw [if_pos hh] at k2; omega
      rw [if_neg n1] at k2
      have n2 : ¬ n < 2048 := by intro hh; rw [if_pos hh] at k2; omega
      rw [if_neg n2] at k2
      have n3 : n < 65536 := by omega
      refine ⟨n, qs, fs, k1, k4, ?_, by rw [← k3, goP_zero]; rfl⟩
      unfold enc
      rw [if_neg n1, if_neg n2, if_pos n3, u8eq hm, u8eq (show d.toNat = 128 + n / 64 % 64 by omega), u8eq (show f.toNat = 128 + n % 64 by omega), show m = n / 4096 by omega]
      rfl
    · obtain ⟨m, hm⟩ : ∃ m, c.toNat = 240 + m := ⟨c.toNat - 240, by omega⟩
      rw [hm, fdig4, fsz4, finP_go (by omega)] at h
      obtain ⟨d, ds, rfl, d1, d2, h⟩ := go_some h
      rw [finP_go (by omega)] at h
      obtain ⟨f, fs, rfl, f1, f2, h⟩ := go_some h
      rw [finP_go (by omega)] at h
      obtain ⟨g, gs, rfl, g1, g2, h⟩ := go_some h
      obtain ⟨k1, k2, qs, k3, k4⟩ := fin_some h
      obtain ⟨n, hn⟩ : ∃ n, ((m * 64 + (d.toNat - 128)) * 64 + (f.toNat - 128)) * 64 + (g.toNat - 128) = n := ⟨_, rfl⟩
      rw [hn] at k1 k2 k3 k4
      have kb := (isPt_iff _).1 k1
      unfold szP at k2
      have n1 : ¬ n < 128 := by intro hh; rw [if_pos hh] at k2; omega
      rw [if_neg n1] at k2
      have n2 : ¬ n < 2048 := by intro hh; rw [if_pos hh] at k2; omega
      rw [if_neg n2] at k2
      have n3 : ¬ n < 65536 := by intro hh; rw [if_pos hh] at k2; omega
      refine ⟨n, qs, gs, k1, k4, ?_, by rw [← k3, goP_zero]; rfl⟩
      unfold enc
      rw [if_neg n1, if_neg n2, if_neg n3, u8eq hm, u8eq (show d.toNat = 128 + n / 4096 % 64 by omega), u8eq (show f.toNat = 128 + n / 64 % 64 by omega), u8eq (show g.toNat = 128 + n % 64 by omega), show m = n / 262144 by omega]
      rfl

/-- The text of points. -/
def encs (ps : List Nat) : List UInt8 := ps.flatMap enc
theorem encs_append (ps qs : List Nat) : encs (ps ++ qs) = encs ps ++ encs qs := by simp [encs]
theorem encs_cons (p : Nat) (qs : List Nat) : encs (p :: qs) = enc p ++ encs qs := rfl
theorem encs_nil : encs [] = [] := rfl
def allPt (ps : List Nat) : Prop := ∀ p ∈ ps, isPt (p : Int) = true

theorem ptsL_encs (ps : List Nat) (h : allPt ps) (xs : List UInt8) : ptsL (encs ps ++ xs) = (ptsL xs).map (ps ++ ·) := by
  induction ps with
  | nil => cases hx : ptsL xs <;> simp [encs, hx]
  | cons p qs ih =>
    rw [encs_cons, List.append_assoc, ptsL_enc p (h p (by simp)), ih (fun q hq => h q (by simp [hq]))]
    cases ptsL xs <;> simp
theorem ptsL_iff (xs : List UInt8) (ps : List Nat) : ptsL xs = some ps ↔ allPt ps ∧ xs = encs ps := by
  constructor
  · intro h
    induction ps generalizing xs with
    | nil =>
      rcases ptsL_some h with ⟨rfl, _⟩ | ⟨n, qs, ys, _, h2, _⟩
      · exact ⟨by simp [allPt], rfl⟩
      · cases h2
    | cons p qs ih =>
      rcases ptsL_some h with ⟨_, h2⟩ | ⟨n, qs', ys, h1, h2, h3, h4⟩
      · cases h2
      · injection h2 with e1 e2
        subst e1 e2
        obtain ⟨k1, k2⟩ := ih ys h4
        refine ⟨fun q hq => ?_, by rw [h3, k2]; rfl⟩
        rcases List.mem_cons.1 hq with rfl | hq
        · exact h1
        · exact k1 q hq
  · rintro ⟨h, rfl⟩
    have := ptsL_encs ps h []
    rw [List.append_nil, ptsL_nil] at this
    simpa using this
theorem ptsL_of {ps : List Nat} (h : allPt ps) : ptsL (encs ps) = some ps := (ptsL_iff _ _).2 ⟨h, rfl⟩

/-- If no point's bytes stand at the beginning, it is no string. -/
theorem ptsL_none {xs : List UInt8} (h0 : xs ≠ []) (h : ∀ p : Nat, isPt (p : Int) = true → ¬ enc p <+: xs) : ptsL xs = none := by
  cases hx : ptsL xs with
  | none => rfl
  | some ps =>
    rcases ptsL_some hx with ⟨h1, _⟩ | ⟨n, qs, ys, h1, _, h3, _⟩
    · exact absurd h1 h0
    · exact absurd ⟨ys, h3.symm⟩ (h n h1)

theorem enc_pos (n : Nat) : 0 < (enc n).length := by rw [enc_length]; have := (szP_le n).1; omega
theorem encs_len_le (ps : List Nat) : ps.length ≤ (encs ps).length := by
  induction ps with
  | nil => simp [encs]
  | cons p qs ih => rw [encs_cons, List.length_append]; have := enc_pos p; simp; omega
theorem encs_len_ge (ps : List Nat) : (encs ps).length ≤ 4 * ps.length := by
  induction ps with
  | nil => simp [encs]
  | cons p qs ih => rw [encs_cons, List.length_append, enc_length]; have := (szP_le p).2; simp; omega
theorem ptsL_len {xs : List UInt8} {ps : List Nat} (h : ptsL xs = some ps) : ps.length ≤ xs.length := by
  rw [((ptsL_iff _ _).1 h).2]; exact encs_len_le ps

/-- Without its last byte a string is none, or has one point less. -/
theorem ptsL_cut {xs : List UInt8} {ps qs : List Nat} (h : ptsL xs = some ps) (hq : ptsL (xs.take (xs.length - 1)) = some qs) (h0 : xs ≠ []) : qs = ps.take (ps.length - 1) ∧ 0 < ps.length := by
  obtain ⟨k1, k2⟩ := (ptsL_iff _ _).1 hq
  have hx : xs = encs qs ++ xs.drop (xs.length - 1) := by rw [← k2, List.take_append_drop]
  have hlen : 0 < xs.length := List.length_pos_iff.2 h0
  have hd : (xs.drop (xs.length - 1)).length = 1 := by simp; omega
  generalize xs.drop (xs.length - 1) = t at *
  rw [hx, ptsL_encs qs k1] at h
  obtain ⟨us, hu, rfl⟩ := Option.map_eq_some_iff.1 h
  have hu2 := ((ptsL_iff _ _).1 hu).2
  have h1 := ptsL_len hu
  have h2 := encs_len_ge us
  rw [← hu2] at h2
  have h3 : us.length = 1 := by omega
  refine ⟨?_, by simp; omega⟩
  rw [List.length_append, h3, Nat.add_sub_cancel, List.take_left]

theorem allPt_append {ps qs : List Nat} (h1 : allPt ps) (h2 : allPt qs) : allPt (ps ++ qs) := fun p hp => (List.mem_append.1 hp).elim (h1 p) (h2 p)

/-! ### What the document's own 'first' reckons -/
def offK (k : Nat) : Int := if k = 2 then 192 else if k = 3 then 224 else if k = 4 then 240 else 0
def stepK (n : Int) (x : UInt8) : Int := 64 * n + x.toNat - 128
def valI (z : Int) (xs : List UInt8) (i : Nat) : Int := (xs.tail.take (i - 1)).foldl stepK z
def valK (k : Nat) (xs : List UInt8) : Int := match xs with
  | [] => 0
  | x :: t => (t.take (k - 1)).foldl stepK ((x.toNat : Int) - offK k)
theorem valK_enc (p : Nat) (xs : List UInt8) (h : isPt (p : Int) = true) (hx : enc p <+: xs) : valK (szP p) xs = (p : Int) ∧ xs.take (szP p) = enc p := by
  obtain ⟨t, rfl⟩ := hx
  refine ⟨?_, by rw [← enc_length, List.take_left]⟩
  have hb := (isPt_iff p).1 h
  unfold enc szP valK
  by_cases h1 : p < 128
  · simp [h1, offK]; omega
  by_cases h2 : p < 2048
  · simp [h1, h2, offK, stepK]; omega
  by_cases h3 : p < 65536
  · simp [h1, h2, h3, offK, stepK]; omega
  · simp [h1, h2, h3, offK, stepK]; omega

end Go.Proofs.YtfjafpbmgbnllaaGreat
