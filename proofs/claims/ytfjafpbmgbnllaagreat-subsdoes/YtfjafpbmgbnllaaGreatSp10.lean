/-
  What is proved here: the index's calls as the laws use them; Conditions: texts of at most 65535 bytes; at most a million calls.
-/
import Derived.Test.YtfjafpbmgbnllaaGreatSp9
import Derived.Test.YtfjafpbmgbnllaaGreatSp7
namespace Go.Proofs.YtfjafpbmgbnllaaGreat
set_option linter.unusedVariables false
set_option linter.unusedSimpArgs false
open Go.RowKit Go.Maps

/-- Add. -/
def addErr (f : List UInt8) (q : Int) : Int := if filterL f = false then 121 else if q < 0 ∨ 2 < q then 1 else 0
def addB (es : List SE) (c f : List UInt8) (q : Int) : Bool := decide (addErr f q = 0) && hadE es c f
theorem addErr_ok {f : List UInt8} {q : Int} (hf : filterL f = true) (h0 : 0 ≤ q) (h2 : q ≤ 2) : addErr f q = 0 := by
  unfold addErr
  rw [if_neg (by rw [hf]; simp), if_neg (by omega)]
def RetAV (m : Px) (c f : List UInt8) (q : Int) (w : World) (e : Ending) (w' : World) : Prop :=
  ∃ m', e = .returned (.tuple #[.bool (addB (ses m.L) c f q), .int .i64 (addErr f q)]) ∧ PxA w' m' ∧ m'.B = m.B ∧ ses m'.L = addV (ses m.L) c f q ∧ m'.K ≤ m.K + 1 ∧ But m.S w w' ∧ ∀ i, m'.S i → m.S i ∨ w.heap.size ≤ i
theorem pAddV_any (m : Px) (c f : List UInt8) (q : Int) (w : World) (h : PxA w m) (hc : c.length ≤ 65535) (hf : f.length ≤ 65535) (hK : m.K ≤ 1000000) :
    Calls Tryz.prog 6 #[.pointer (some ⟨m.B, 0, none⟩), .string (str c), .agg #[.string (str f), .int .i64 q]] w (RetAV m c f q w) :=
  (pAdd_any m c f q w h hc hf hK).mono fun e w' hr => by
    unfold RetPA at hr
    by_cases h1 : filterL f = false
    · rw [if_pos h1] at hr
      have e1 : addErr f q = 121 := by unfold addErr; rw [if_pos h1]
      have e2 : addB (ses m.L) c f q = false := by unfold addB; rw [e1]; rfl
      exact ⟨m, by rw [e1, e2]; exact hr.1, h.keep hr.2, rfl, by unfold addV; rw [if_neg (by rw [h1]; simp)], Nat.le_succ _, But.ofBelow hr.2 _, fun i hi => Or.inl hi⟩
    · rw [if_neg h1] at hr
      by_cases h2 : q < 0 ∨ 2 < q
      · rw [if_pos h2] at hr
        have e1 : addErr f q = 1 := by unfold addErr; rw [if_neg h1, if_pos h2]
        have e2 : addB (ses m.L) c f q = false := by unfold addB; rw [e1]; rfl
        exact ⟨m, by rw [e1, e2]; exact hr.1, h.keep hr.2, rfl, by unfold addV; rw [if_neg (by omega)], Nat.le_succ _, But.ofBelow hr.2 _, fun i hi => Or.inl hi⟩
      · rw [if_neg h2] at hr
        obtain ⟨m', he, hp, hB, hL, hKK, hb, hS⟩ := hr
        have hft : filterL f = true := by simpa using h1
        have e1 : addErr f q = 0 := addErr_ok hft (by omega) (by omega)
        have e2 : addB (ses m.L) c f q = hadP m.L c f := by unfold addB; rw [e1, hadE_ses]; rfl
        exact ⟨m', by rw [e1, e2]; exact he, hp, hB, by unfold addV; rw [if_pos ⟨hft, by omega, by omega⟩]; exact hL, by omega, hb, hS⟩
/-- Drop. -/
def dropV (es : List SE) (c f : List UInt8) : List SE := if filterL f = true then dropE es c f else es
def RetDV (m : Px) (c f : List UInt8) (w : World) (e : Ending) (w' : World) : Prop :=
  ∃ m', e = .returned (.tuple #[.bool (filterL f && hadE (ses m.L) c f), .int .i64 (errN (filterL f) 121)]) ∧ PxA w' m' ∧ m'.B = m.B ∧ ses m'.L = dropV (ses m.L) c f ∧ m'.K = m.K ∧ But m.S w w' ∧ ∀ i, m'.S i → m.S i
theorem pDropV_any (m : Px) (c f : List UInt8) (w : World) (h : PxA w m) (hc : c.length ≤ 65535) (hf : f.length ≤ 65535) (hK : m.K ≤ 1000000) :
    Calls Tryz.prog 8 #[.pointer (some ⟨m.B, 0, none⟩), .string (str c), .string (str f)] w (RetDV m c f w) :=
  (pDrop_any m c f w h hc hf hK).mono fun e w' hr => by
    unfold RetPD at hr
    by_cases h1 : filterL f = true
    · rw [if_pos h1] at hr
      obtain ⟨m', he, hp, hB, hL, hKK, hb, hS⟩ := hr
      exact ⟨m', by rw [h1, hadE_ses]; exact he, hp, hB, by unfold dropV; rw [if_pos h1, hL]; exact ses_dropP _ _ _, hKK, hb, hS⟩
    · rw [if_neg h1] at hr
      have h2 : filterL f = false := by simpa using h1
      exact ⟨m, by rw [h2]; exact hr.1, h.keep hr.2, rfl, by unfold dropV; rw [if_neg h1], rfl, But.ofBelow hr.2 _, fun i hi => hi⟩
/-- Gone. -/
def RetGV (m : Px) (c : List UInt8) (w : World) (e : Ending) (w' : World) : Prop :=
  ∃ m', e = .returned (.tuple #[.int .i64 (((ses m.L).length : Int) - ((dropE (ses m.L) c []).length : Int)), .int .i64 0]) ∧ PxA w' m' ∧ m'.B = m.B ∧ ses m'.L = dropE (ses m.L) c [] ∧ m'.K = m.K ∧ But m.S w w' ∧ ∀ i, m'.S i → m.S i
theorem pGoneV_any (m : Px) (c : List UInt8) (w : World) (h : PxA w m) (hc : c.length ≤ 65535) (hK : m.K ≤ 1000000) :
    Calls Tryz.prog 10 #[.pointer (some ⟨m.B, 0, none⟩), .string (str c)] w (RetGV m c w) :=
  (pGone_any m c w h hc hK).mono fun e w' hr => by
    obtain ⟨m', he, hp, hB, hL, hKK, hb, hS⟩ := hr
    have h1 : (ses m.L).length = m.L.length := by simp [ses]
    have h2 : (dropE (ses m.L) c []).length = (dropP m.L c []).length := by rw [← ses_dropP]; simp [ses]
    exact ⟨m', by rw [h1, h2]; exact he, hp, hB, by rw [hL]; exact ses_dropP _ _ _, hKK, hb, hS⟩

end Go.Proofs.YtfjafpbmgbnllaaGreat
