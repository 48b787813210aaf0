/-
  What is proved here: what is laid down as bytes is read as itself, how long it is, and what a request that may be looks like: all of it on plain numbers and lists.
-/
import Derived.Test.YtfpfijggmfeejaaPduDef
namespace Go.Proofs.Ytfpfijggmfeejaa
set_option linter.unusedVariables false
set_option linter.unusedSimpArgs false
open Go.RowKit

structure Rq where
  f : Int
  a : Int
  c : Int
  vs : List Int
  t : Int
  an : Int
  o : Int
def Rq.may (r : Rq) : Bool := mayB r.f r.a r.c r.vs r.t r.an r.o
def Rq.lay (r : Rq) : List UInt8 := layL r.f r.a r.c r.vs r.t r.an r.o
def Rq.none : Rq := ⟨0, 0, 0, [], 0, 0, 0⟩
/-- What bytes seem to be. -/
def gs (b : List UInt8) : Rq :=
  if (((b[0]?.getD 0).toNat : Nat) : Int) = 5 then ⟨5, wAt b 1, 0, [wAt b 3 / 65280], 0, 0, 0⟩
  else if (((b[0]?.getD 0).toNat : Nat) : Int) = 6 then ⟨6, wAt b 1, 0, [wAt b 3], 0, 0, 0⟩
  else if (((b[0]?.getD 0).toNat : Nat) : Int) = 22 then ⟨22, wAt b 1, 0, [], 0, wAt b 3, wAt b 5⟩
  else if (((b[0]?.getD 0).toNat : Nat) : Int) = 15 then ⟨15, wAt b 1, wAt b 3, bitsL (b.drop 6) (wAt b 3).toNat, 0, 0, 0⟩
  else if (((b[0]?.getD 0).toNat : Nat) : Int) = 16 then ⟨16, wAt b 1, wAt b 3, wordsL (b.drop 6), 0, 0, 0⟩
  else if (((b[0]?.getD 0).toNat : Nat) : Int) = 23 then ⟨23, wAt b 1, wAt b 3, wordsL (b.drop 10), wAt b 5, 0, 0⟩
  else ⟨(((b[0]?.getD 0).toNat : Nat) : Int), wAt b 1, wAt b 3, [], 0, 0, 0⟩
/-- The request whose bytes they are. -/
def parseL (b : List UInt8) : Option Rq := if (gs b).may = true ∧ (gs b).lay = b then some (gs b) else .none

structure An where
  us : List Int
  code : Int
def An.none : An := ⟨[], 0⟩
def An.may (r : Rq) (x : An) : Bool := ansMayB r.f r.c x.code x.us
def An.lay (r : Rq) (x : An) : List UInt8 := ansL r.f r.a r.c r.vs r.t r.an r.o x.code x.us
/-- What bytes seem to be, as an answer. -/
def ag (r : Rq) (b : List UInt8) : An :=
  if b.length = 2 ∧ (((b[0]?.getD 0).toNat : Nat) : Int) = r.f + 128 then ⟨[], (((b[1]?.getD 0).toNat : Nat) : Int)⟩
  else if r.f = 1 ∨ r.f = 2 then ⟨bitsL (b.drop 2) r.c.toNat, 0⟩
  else if r.f = 3 ∨ r.f = 4 ∨ r.f = 23 then ⟨wordsL (b.drop 2), 0⟩
  else An.none
def ansParseL (r : Rq) (b : List UInt8) : Option An := if (ag r b).may r = true ∧ (ag r b).lay r = b then some (ag r b) else .none

/-- A request that may be, function by function. -/
theorem may_cases {f a c : Int} {vs : List Int} {t an o : Int} (h : mayB f a c vs t an o = true) :
    ((f = 1 ∨ f = 2) ∧ 1 ≤ c ∧ c ≤ 2000 ∧ 0 ≤ a ∧ a + c ≤ 65536 ∧ vs = [] ∧ t = 0 ∧ an = 0 ∧ o = 0) ∨
    ((f = 3 ∨ f = 4) ∧ 1 ≤ c ∧ c ≤ 125 ∧ 0 ≤ a ∧ a + c ≤ 65536 ∧ vs = [] ∧ t = 0 ∧ an = 0 ∧ o = 0) ∨
    (f = 5 ∧ 0 ≤ a ∧ a ≤ 65535 ∧ c = 0 ∧ (∃ v, vs = [v] ∧ 0 ≤ v ∧ v ≤ 1) ∧ t = 0 ∧ an = 0 ∧ o = 0) ∨
    (f = 6 ∧ 0 ≤ a ∧ a ≤ 65535 ∧ c = 0 ∧ (∃ v, vs = [v] ∧ 0 ≤ v ∧ v ≤ 65535) ∧ t = 0 ∧ an = 0 ∧ o = 0) ∨
    (f = 15 ∧ c = vs.length ∧ 1 ≤ c ∧ c ≤ 1968 ∧ 0 ≤ a ∧ a + c ≤ 65536 ∧ upToB vs 1 = true ∧ t = 0 ∧ an = 0 ∧ o = 0) ∨
    (f = 16 ∧ c = vs.length ∧ 1 ≤ c ∧ c ≤ 123 ∧ 0 ≤ a ∧ a + c ≤ 65536 ∧ upToB vs 65535 = true ∧ t = 0 ∧ an = 0 ∧ o = 0) ∨
    (f = 22 ∧ 0 ≤ a ∧ a ≤ 65535 ∧ 0 ≤ an ∧ an ≤ 65535 ∧ 0 ≤ o ∧ o ≤ 65535 ∧ c = 0 ∧ vs = [] ∧ t = 0) ∨
    (f = 23 ∧ 1 ≤ c ∧ c ≤ 125 ∧ 0 ≤ a ∧ a + c ≤ 65536 ∧ 1 ≤ (vs.length : Int) ∧ (vs.length : Int) ≤ 121 ∧ 0 ≤ t ∧ t + vs.length ≤ 65536 ∧ upToB vs 65535 = true ∧ an = 0 ∧ o = 0) := by
  unfold mayB at h
  split at h
  · left
    simp only [readsB, liesB, plainB, Bool.and_eq_true, decide_eq_true_eq, beq_iff_eq] at h
    obtain ⟨⟨⟨⟨⟨⟨h1, h2⟩, h3⟩, h4⟩, h5⟩, h6⟩, h7, h8⟩ := h
    exact ⟨by assumption, h1, h2, h3, h4, List.eq_nil_of_length_eq_zero h5, h6, h7, h8⟩
  split at h
  · right; left
    simp only [readsB, liesB, plainB, Bool.and_eq_true, decide_eq_true_eq, beq_iff_eq] at h
    obtain ⟨⟨⟨⟨⟨⟨h1, h2⟩, h3⟩, h4⟩, h5⟩, h6⟩, h7, h8⟩ := h
    exact ⟨by assumption, h1, h2, h3, h4, List.eq_nil_of_length_eq_zero h5, h6, h7, h8⟩
  split at h
  · right; right; left
    simp only [oneB, isW, plainB, Bool.and_eq_true, decide_eq_true_eq, beq_iff_eq] at h
    obtain ⟨⟨⟨⟨⟨⟨h1, h2⟩, h3⟩, h4⟩, h5⟩, h6⟩, h7, h8⟩ := h
    obtain ⟨v, rfl⟩ := List.length_eq_one_iff.1 h4
    exact ⟨by assumption, h1, h2, h3, ⟨v, rfl, by simpa [upToB] using h5⟩, h6, h7, h8⟩
  split at h
  · right; right; right; left
    simp only [oneB, isW, plainB, Bool.and_eq_true, decide_eq_true_eq, beq_iff_eq] at h
    obtain ⟨⟨⟨⟨⟨⟨h1, h2⟩, h3⟩, h4⟩, h5⟩, h6⟩, h7, h8⟩ := h
    obtain ⟨v, rfl⟩ := List.length_eq_one_iff.1 h4
    exact ⟨by assumption, h1, h2, h3, ⟨v, rfl, by simpa [upToB] using h5⟩, h6, h7, h8⟩
  split at h
  · right; right; right; right; left
    simp only [manyB, liesB, plainB, Bool.and_eq_true, decide_eq_true_eq, beq_iff_eq] at h
    obtain ⟨⟨⟨⟨h1, ⟨⟨h2, h3⟩, h4⟩, h5⟩, h6⟩, h7⟩, h8, h9⟩ := h
    exact ⟨by assumption, h1, h2, h3, h4, h5, h6, h7, h8, h9⟩
  split at h
  · right; right; right; right; right; left
    simp only [manyB, liesB, plainB, Bool.and_eq_true, decide_eq_true_eq, beq_iff_eq] at h
    obtain ⟨⟨⟨⟨h1, ⟨⟨h2, h3⟩, h4⟩, h5⟩, h6⟩, h7⟩, h8, h9⟩ := h
    exact ⟨by assumption, h1, h2, h3, h4, h5, h6, h7, h8, h9⟩
  split at h
  · right; right; right; right; right; right; left
    simp only [masksB, isW, Bool.and_eq_true, decide_eq_true_eq, beq_iff_eq] at h
    obtain ⟨⟨⟨⟨⟨⟨h1, h2⟩, h3, h4⟩, h5, h6⟩, h7⟩, h8⟩, h9⟩ := h
    exact ⟨by assumption, h1, h2, h3, h4, h5, h6, h7, List.eq_nil_of_length_eq_zero h8, h9⟩
  split at h
  · right; right; right; right; right; right; right
    simp only [swapsB, liesB, plainB, Bool.and_eq_true, decide_eq_true_eq, beq_iff_eq] at h
    obtain ⟨⟨⟨⟨⟨⟨h1, h2⟩, h3⟩, h4⟩, ⟨⟨h5, h6⟩, h7⟩, h8⟩, h9⟩, h10, h11⟩ := h
    exact ⟨by assumption, h1, h2, h3, h4, h5, h6, h7, h8, h9, h10, h11⟩
  · exact absurd h (by simp)

theorem word_val (v : Int) (h0 : 0 ≤ v) (h1 : v ≤ 65535) : 256 * ((UInt8.ofNat (v.toNat / 256)).toNat : Int) + ((UInt8.ofNat (v.toNat % 256)).toNat : Int) = v := by
  simp only [UInt8.toNat_ofNat']
  omega
theorem word_max (v : Int) (h0 : 0 ≤ v) (h1 : v ≤ 65535) : 256 * (max v 0 / 256 % 256) + max v 0 % 256 = v := by omega
theorem putL_cons (v : Int) (vs : List Int) : putL (v :: vs) = UInt8.ofNat (v.toNat / 256) :: UInt8.ofNat (v.toNat % 256) :: putL vs := rfl
theorem putL_nil : putL [] = [] := rfl
theorem putL_length (vs : List Int) : (putL vs).length = 2 * vs.length := by
  induction vs with
  | nil => rfl
  | cons v vs ih => rw [putL_cons]; simp only [List.length_cons, ih]; omega
theorem packL_length (vs : List Int) : (packL vs).length = (vs.length + 7) / 8 := by rw [packL, pkTo_length]
theorem words_put (vs : List Int) (h : upToB vs 65535 = true) : wordsL (putL vs) = vs := by
  induction vs with
  | nil => rfl
  | cons v vs ih =>
    simp only [upToB, List.all_cons, Bool.and_eq_true, decide_eq_true_eq] at h
    rw [putL_cons, wordsL, ih h.2, word_val v h.1.1 h.1.2]
theorem upTo_bits (vs : List Int) : upToB vs 1 = bitsB vs := by
  unfold upToB bitsB
  congr 1
  funext v
  rw [Bool.eq_iff_iff]
  simp
  omega
theorem bits_pack (vs : List Int) (h : upToB vs 1 = true) (n : Nat) (hn : n = vs.length) : bitsL (packL vs) n = vs := by
  subst hn
  rw [bitsL, if_pos (by rw [packL_length]; omega), packL, unpack_pack vs _ _ rfl (by rw [← upTo_bits]; exact h) (by omega)]

theorem wAt_1 (x p q : UInt8) (r : List UInt8) : wAt (x :: p :: q :: r) 1 = 256 * (p.toNat : Int) + (q.toNat : Int) := by simp [wAt]
theorem wAt_3 (x y z p q : UInt8) (r : List UInt8) : wAt (x :: y :: z :: p :: q :: r) 3 = 256 * (p.toNat : Int) + (q.toNat : Int) := by simp [wAt]
theorem wAt_5 (x y z u v p q : UInt8) (r : List UInt8) : wAt (x :: y :: z :: u :: v :: p :: q :: r) 5 = 256 * (p.toNat : Int) + (q.toNat : Int) := by simp [wAt]

/-- What is laid down is read as itself. -/
theorem gs_lay (r : Rq) (h : r.may = true) : gs r.lay = r := by
  obtain ⟨f, a, c, vs, t, an, o⟩ := r
  have h' : mayB f a c vs t an o = true := h
  have hl : (Rq.mk f a c vs t an o).lay = layL f a c vs t an o := rfl
  rw [hl]
  clear h hl
  rcases may_cases h' with ⟨hf, h1, h2, h3, h4, rfl, rfl, rfl, rfl⟩ | ⟨hf, h1, h2, h3, h4, rfl, rfl, rfl, rfl⟩ | ⟨rfl, h1, h2, rfl, ⟨v, rfl, h3, h4⟩, rfl, rfl, rfl⟩ | ⟨rfl, h1, h2, rfl, ⟨v, rfl, h3, h4⟩, rfl, rfl, rfl⟩ | ⟨rfl, h1, h2, h3, h4, h5, h6, rfl, rfl, rfl⟩ | ⟨rfl, h1, h2, h3, h4, h5, h6, rfl, rfl, rfl⟩ | ⟨rfl, h1, h2, h3, h4, h5, h6, rfl, rfl, rfl⟩ | ⟨rfl, h1, h2, h3, h4, h5, h6, h7, h8, h9, rfl, rfl⟩
  · rcases hf with rfl | rfl
    all_goals
      simp [layL, gs, putL_cons, wAt_1, wAt_3, word_max a h3 (by omega), word_max c (by omega) (by omega)]
  · rcases hf with rfl | rfl
    all_goals
      simp [layL, gs, putL_cons, wAt_1, wAt_3, word_max a h3 (by omega), word_max c (by omega) (by omega)]
  · have e := word_max (65280 * v) (by omega) (by omega)
    simp [layL, gs, putL_cons, wAt_1, wAt_3, word_max a h1 (by omega), e]
  · simp [layL, gs, putL_cons, wAt_1, wAt_3, word_max a h1 (by omega), word_max v h3 (by omega)]
  · have e := bits_pack vs h6 c.toNat (by omega)
    simp [layL, gs, putL_cons, putL_nil, wAt_1, wAt_3, word_max a h4 (by omega), word_max c (by omega) (by omega), cntL, e]
  · have e := words_put vs h6
    simp [layL, gs, putL_cons, putL_nil, wAt_1, wAt_3, word_max a h4 (by omega), word_max c (by omega) (by omega), cntL, e]
  · simp [layL, gs, putL_cons, wAt_1, wAt_3, wAt_5, word_max a h1 (by omega), word_max an (by omega) (by omega), word_max o (by omega) (by omega)]
  · have e := words_put vs h9
    simp [layL, gs, putL_cons, putL_nil, wAt_1, wAt_3, wAt_5, word_max a h3 (by omega), word_max c (by omega) (by omega), word_max t (by omega) (by omega), cntL, e]

theorem parse_lay (r : Rq) (h : r.may = true) : parseL r.lay = some r := by
  rw [parseL, gs_lay r h, if_pos ⟨h, rfl⟩]
theorem parse_some {b : List UInt8} {r : Rq} (h : parseL b = some r) : r.may = true ∧ r.lay = b ∧ gs b = r := by
  unfold parseL at h
  split at h
  · next hc => injection h with h; subst h; exact ⟨hc.1, hc.2, rfl⟩
  · cases h

/-- How long a request's bytes are. -/
def sizeOfRq (f : Int) (n : Nat) : Nat := if f = 15 then 6 + (n + 7) / 8 else if f = 16 then 6 + 2 * n else if f = 22 then 7 else if f = 23 then 10 + 2 * n else 5
theorem lay_length {f a c : Int} {vs : List Int} {t an o : Int} (h : mayB f a c vs t an o = true) : (layL f a c vs t an o).length = sizeOfRq f vs.length := by
  rcases may_cases h with ⟨hf, _⟩ | ⟨hf, _⟩ | ⟨rfl, _⟩ | ⟨rfl, _⟩ | ⟨rfl, _⟩ | ⟨rfl, _⟩ | ⟨rfl, _⟩ | ⟨rfl, _⟩
  · rcases hf with rfl | rfl <;> simp [layL, sizeOfRq, putL_length]
  · rcases hf with rfl | rfl <;> simp [layL, sizeOfRq, putL_length]
  all_goals
    simp [layL, sizeOfRq, putL_length, cntL, packL_length]
  all_goals omega
theorem lay_bounds {f a c : Int} {vs : List Int} {t an o : Int} (h : mayB f a c vs t an o = true) : 5 ≤ (layL f a c vs t an o).length ∧ (layL f a c vs t an o).length ≤ 253 := by
  rw [lay_length h]
  rcases may_cases h with ⟨hf, _⟩ | ⟨hf, _⟩ | ⟨rfl, _⟩ | ⟨rfl, _⟩ | ⟨rfl, h1, h2, h3, _⟩ | ⟨rfl, h1, h2, h3, _⟩ | ⟨rfl, _⟩ | ⟨rfl, _, _, _, _, h1, h2, _⟩
  · rcases hf with rfl | rfl <;> simp [sizeOfRq]
  · rcases hf with rfl | rfl <;> simp [sizeOfRq]
  all_goals simp [sizeOfRq]
  all_goals omega

end Go.Proofs.Ytfpfijggmfeejaa
