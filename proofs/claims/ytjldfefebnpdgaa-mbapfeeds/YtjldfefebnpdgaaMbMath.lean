/-
  What is proved here: layer 6 as plain functions of lists: a frame's bytes, what comes next in bytes, that a frame's bytes are read as itself, and that what is read has just these bytes. No condition of its own; nothing of the program is named.
-/
import Derived.Test.YtjldfefebnpdgaaCutMath
namespace Go.Proofs.Ytjldfefebnpdgaa
set_option linter.unusedVariables false
set_option linter.unusedSimpArgs false
open Go.RowKit

/-- A frame. -/
structure AduE where
  tid : Int
  unit : Int
  pdu : List UInt8
/-- May it be? -/
def aduOk (a : AduE) : Bool := decide (0 ≤ a.tid ∧ a.tid ≤ 65535 ∧ 0 ≤ a.unit ∧ a.unit ≤ 255 ∧ 1 ≤ a.pdu.length ∧ a.pdu.length ≤ 253)
/-- A word as bytes. -/
def w2L (n : Nat) : List UInt8 := [UInt8.ofNat (n / 256), UInt8.ofNat (n % 256)]
/-- A frame's bytes. -/
def aduL (a : AduE) : List UInt8 := w2L a.tid.toNat ++ (w2L 0 ++ (w2L (a.pdu.length + 1) ++ (UInt8.ofNat a.unit.toNat :: a.pdu)))
theorem aduL_length (a : AduE) : (aduL a).length = a.pdu.length + 7 := by simp [aduL, w2L]
def byteAt (b : List UInt8) (i : Nat) : Nat := (b[i]?.getD 0).toNat
def wordN (b : List UInt8) (i : Nat) : Nat := 256 * byteAt b i + byteAt b (i + 1)
theorem byteAt_lt (b : List UInt8) (i : Nat) : byteAt b i < 256 := (b[i]?.getD 0).toNat_lt
theorem byteAt_app (b y : List UInt8) (i : Nat) (h : i < b.length) : byteAt (b ++ y) i = byteAt b i := by unfold byteAt; rw [List.getElem?_append_left h]
theorem wordN_app (b y : List UInt8) (i : Nat) (h : i + 1 < b.length) : wordN (b ++ y) i = wordN b i := by unfold wordN; rw [byteAt_app b y i (by omega), byteAt_app b y (i + 1) h]
/-- What comes next. -/
def mbNx (b : List UInt8) : Nx AduE :=
  if b.length < 6 then .wait
  else if wordN b 2 ≠ 0 ∨ wordN b 4 < 2 ∨ 254 < wordN b 4 then .bad
  else if b.length < 6 + wordN b 4 then .wait
  else .cut ⟨(wordN b 0 : Nat), (byteAt b 6 : Nat), (b.drop 7).take (wordN b 4 - 1)⟩ (6 + wordN b 4)
theorem mbNx_few (b : List UInt8) (h : b.length < 6) : mbNx b = .wait := by unfold mbNx; rw [if_pos h]
theorem mbNx_bad (b : List UInt8) (h : ¬ b.length < 6) (h2 : wordN b 2 ≠ 0 ∨ wordN b 4 < 2 ∨ 254 < wordN b 4) : mbNx b = .bad := by unfold mbNx; rw [if_neg h, if_pos h2]
theorem mbNx_wait (b : List UInt8) (h : ¬ b.length < 6) (h2 : ¬ (wordN b 2 ≠ 0 ∨ wordN b 4 < 2 ∨ 254 < wordN b 4)) (h3 : b.length < 6 + wordN b 4) : mbNx b = .wait := by unfold mbNx; rw [if_neg h, if_neg h2, if_pos h3]
theorem mbNx_cut (b : List UInt8) (h : ¬ b.length < 6) (h2 : ¬ (wordN b 2 ≠ 0 ∨ wordN b 4 < 2 ∨ 254 < wordN b 4)) (h3 : ¬ b.length < 6 + wordN b 4) :
    mbNx b = .cut ⟨(wordN b 0 : Nat), (byteAt b 6 : Nat), (b.drop 7).take (wordN b 4 - 1)⟩ (6 + wordN b 4) := by unfold mbNx; rw [if_neg h, if_neg h2, if_neg h3]
theorem mbNx_or (b : List UInt8) : mbNx b = .wait ∨ (¬ b.length < 6 ∧ (wordN b 2 ≠ 0 ∨ wordN b 4 < 2 ∨ 254 < wordN b 4) ∧ mbNx b = .bad) ∨
    (¬ b.length < 6 ∧ ¬ (wordN b 2 ≠ 0 ∨ wordN b 4 < 2 ∨ 254 < wordN b 4) ∧ ¬ b.length < 6 + wordN b 4 ∧ mbNx b = .cut ⟨(wordN b 0 : Nat), (byteAt b 6 : Nat), (b.drop 7).take (wordN b 4 - 1)⟩ (6 + wordN b 4)) := by
  by_cases h : b.length < 6
  · exact Or.inl (mbNx_few b h)
  by_cases h2 : wordN b 2 ≠ 0 ∨ wordN b 4 < 2 ∨ 254 < wordN b 4
  · exact Or.inr (Or.inl ⟨h, h2, mbNx_bad b h h2⟩)
  by_cases h3 : b.length < 6 + wordN b 4
  · exact Or.inl (mbNx_wait b h h2 h3)
  · exact Or.inr (Or.inr ⟨h, h2, h3, mbNx_cut b h h2 h3⟩)
theorem mbCuts : Cuts mbNx := by
  refine ⟨rfl, ?_, ?_, ?_⟩
  · intro b a n hn
    rcases mbNx_or b with h | ⟨_, _, h⟩ | ⟨h1, h2, h3, h⟩
    · rw [h] at hn; cases hn
    · rw [h] at hn; cases hn
    · rw [h] at hn
      injection hn with _ hn
      omega
  · intro b y a n hn
    rcases mbNx_or b with h | ⟨_, _, h⟩ | ⟨h1, h2, h3, h⟩
    · rw [h] at hn; cases hn
    · rw [h] at hn; cases hn
    · rw [h] at hn
      have e2 := wordN_app b y 2 (by omega)
      have e4 := wordN_app b y 4 (by omega)
      have e0 := wordN_app b y 0 (by omega)
      have e6 := byteAt_app b y 6 (by omega)
      rw [← hn, mbNx_cut (b ++ y) (by rw [List.length_append]; omega) (by rw [e2, e4]; exact h2) (by rw [List.length_append, e4]; omega), e4, e0, e6]
      have : ((b ++ y).drop 7).take (wordN b 4 - 1) = (b.drop 7).take (wordN b 4 - 1) := by
        rw [List.drop_append_of_le_length (by omega), List.take_append_of_le_length (by rw [List.length_drop]; omega)]
      rw [this]
  · intro b y hn
    rcases mbNx_or b with h | ⟨h1, h2, _⟩ | ⟨_, _, _, h⟩
    · rw [h] at hn; cases hn
    · have e2 := wordN_app b y 2 (by omega)
      have e4 := wordN_app b y 4 (by omega)
      exact mbNx_bad _ (by rw [List.length_append]; omega) (by rw [e2, e4]; exact h2)
    · rw [h] at hn; cases hn

theorem u8n (n : Nat) (h : n < 256) : (UInt8.ofNat n).toNat = n := by rw [UInt8.toNat_ofNat']; omega
/-- A frame's bytes are read as itself, whatever stands behind. -/
theorem mbNx_frame (a : AduE) (h : aduOk a = true) (y : List UInt8) : mbNx (aduL a ++ y) = .cut a (aduL a).length := by
  unfold aduOk at h
  rw [decide_eq_true_iff] at h
  obtain ⟨h1, h2, h3, h4, h5, h6⟩ := h
  have hl := aduL_length a
  have w0 : wordN (aduL a ++ y) 0 = a.tid.toNat := by
    rw [wordN_app _ _ _ (by omega)]
    show 256 * (UInt8.ofNat (a.tid.toNat / 256)).toNat + (UInt8.ofNat (a.tid.toNat % 256)).toNat = _
    rw [u8n _ (by omega), u8n _ (by omega)]
    omega
  have w2 : wordN (aduL a ++ y) 2 = 0 := by rw [wordN_app _ _ _ (by omega)]; rfl
  have w4 : wordN (aduL a ++ y) 4 = a.pdu.length + 1 := by
    rw [wordN_app _ _ _ (by omega)]
    show 256 * (UInt8.ofNat ((a.pdu.length + 1) / 256)).toNat + (UInt8.ofNat ((a.pdu.length + 1) % 256)).toNat = _
    rw [u8n _ (by omega), u8n _ (by omega)]
    omega
  have b6 : byteAt (aduL a ++ y) 6 = a.unit.toNat := by
    rw [byteAt_app _ _ _ (by omega)]
    show (UInt8.ofNat a.unit.toNat).toNat = _
    rw [u8n _ (by omega)]
  rw [mbNx_cut _ (by rw [List.length_append]; omega) (by rw [w2, w4]; omega) (by rw [List.length_append, w4]; omega), w4, w0, b6, hl]
  have hp : ((aduL a ++ y).drop 7).take (a.pdu.length + 1 - 1) = a.pdu := by
    show (a.pdu ++ y).take (a.pdu.length + 1 - 1) = a.pdu
    rw [Nat.add_sub_cancel, List.take_left]
  rw [hp]
  have e1 : ((a.tid.toNat : Nat) : Int) = a.tid := by omega
  have e2 : ((a.unit.toNat : Nat) : Int) = a.unit := by omega
  rw [e1, e2, show 6 + (a.pdu.length + 1) = a.pdu.length + 7 by omega]
theorem list7 (b : List UInt8) (h : 7 ≤ b.length) : ∃ x0 x1 x2 x3 x4 x5 x6 t, b = x0 :: x1 :: x2 :: x3 :: x4 :: x5 :: x6 :: t := by
  match b, h with
  | x0 :: x1 :: x2 :: x3 :: x4 :: x5 :: x6 :: t, _ => exact ⟨x0, x1, x2, x3, x4, x5, x6, t, rfl⟩
theorem u8_of (x : UInt8) (n : Nat) (h : n = x.toNat) : UInt8.ofNat n = x := by subst h; simp
/-- What is read may be, and has just these bytes. -/
theorem mbNx_back (b : List UInt8) (a : AduE) (n : Nat) (h : mbNx b = .cut a n) : aduOk a = true ∧ aduL a = b.take n ∧ n = a.pdu.length + 7 := by
  rcases mbNx_or b with hh | ⟨_, _, hh⟩ | ⟨h1, h2, h3, hh⟩
  · rw [hh] at h; cases h
  · rw [hh] at h; cases h
  · rw [hh] at h
    injection h with ha hn
    obtain ⟨x0, x1, x2, x3, x4, x5, x6, t, rfl⟩ := list7 b (by omega)
    have b0 := x0.toNat_lt
    have b1 := x1.toNat_lt
    have b2 := x2.toNat_lt
    have b3 := x3.toNat_lt
    have b4 := x4.toNat_lt
    have b5 := x5.toNat_lt
    have b6 := x6.toNat_lt
    have e0 : wordN (x0 :: x1 :: x2 :: x3 :: x4 :: x5 :: x6 :: t) 0 = 256 * x0.toNat + x1.toNat := rfl
    have e2 : wordN (x0 :: x1 :: x2 :: x3 :: x4 :: x5 :: x6 :: t) 2 = 256 * x2.toNat + x3.toNat := rfl
    have e4 : wordN (x0 :: x1 :: x2 :: x3 :: x4 :: x5 :: x6 :: t) 4 = 256 * x4.toNat + x5.toNat := rfl
    have e6 : byteAt (x0 :: x1 :: x2 :: x3 :: x4 :: x5 :: x6 :: t) 6 = x6.toNat := rfl
    rw [e0, e4, e6] at ha
    rw [e4] at hn h3
    rw [e2, e4] at h2
    simp only [List.length_cons] at h1 h3
    obtain ⟨N, hN⟩ : ∃ N, 256 * x4.toNat + x5.toNat = N + 1 := ⟨256 * x4.toNat + x5.toNat - 1, by omega⟩
    rw [hN] at ha hn h3 h2
    have hlp : (t.take N).length = N := by rw [List.length_take]; omega
    obtain rfl : a = ⟨((256 * x0.toNat + x1.toNat : Nat) : Int), ((x6.toNat : Nat) : Int), t.take N⟩ := by rw [← ha]; rfl
    refine ⟨?_, ?_, ?_⟩
    · unfold aduOk
      rw [decide_eq_true_iff]
      simp only [hlp]
      omega
    · unfold aduL w2L
      simp only [hlp, Int.toNat_natCast]
      rw [u8_of x0 ((256 * x0.toNat + x1.toNat) / 256) (by omega), u8_of x1 ((256 * x0.toNat + x1.toNat) % 256) (by omega), u8_of x4 ((N + 1) / 256) (by omega), u8_of x5 ((N + 1) % 256) (by omega), u8_of x6 x6.toNat rfl, ← hn, show 6 + (N + 1) = N + 7 by omega]
      have z2 : (0 : UInt8) = x2 := by rw [← u8_of x2 0 (by omega)]; rfl
      have z3 : (0 : UInt8) = x3 := by rw [← u8_of x3 0 (by omega)]; rfl
      show [x0, x1] ++ ([(0 : UInt8), (0 : UInt8)] ++ ([x4, x5] ++ x6 :: t.take N)) = _
      subst z2 z3
      rfl
    · simp only [hlp]
      omega

end Go.Proofs.Ytjldfefebnpdgaa
