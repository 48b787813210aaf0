/-
  What is proved here: what the document's own Find of layer 13 returns. Conditions: at most 65535 entries, whose filters are filters; a name that is not empty, of at most 65535 bytes.
-/
import Derived.Test.YtfjafpbmgbnllaaSr4
import Derived.Test.YtfjafpbmgbnllaaTr3
namespace Go.Proofs.Ytfjafpbmgbnllaa
set_option linter.unusedVariables false
set_option linter.unusedSimpArgs false
open Go.RowKit

def cutT (s : Nat) (A : Option Addr) (lo c : Nat) : Option Addr := if c = lo then A else A.map fun a => a.add (lo * s)
theorem run_tailT {P : Program} (t e : TypeId) (s : Nat) (ht : P.underlying t = some (.slice e)) (hs : (P.info? e).map (·.size) = some s) (A : Option Addr) (l c : Nat) (lo : Int) (lo' : Nat) (elo : lo = lo') (h1 : lo' ≤ l) (w : World) :
    (Instr.slice t (.slice A l c) (some (.int .i64 lo)) none none).run P w = .ok (.slice (cutT s A lo' c) (l - lo') (c - lo')) w := by
  subst elo
  obtain ⟨i, hi, hsz⟩ := Option.map_eq_some_iff.1 hs
  have a1 : (lo' : Int) ≤ (l : Int) := by omega
  simp [Instr.slice, run_underlying ht, Instr.sliceBounds, run_sliceBound, sizeOf, typeInfo, hi, hsz, cutT, a1]
theorem run_headT {P : Program} (t e : TypeId) (s : Nat) (ht : P.underlying t = some (.slice e)) (hs : (P.info? e).map (·.size) = some s) (A : Option Addr) (l c : Nat) (hi : Int) (h' : Nat) (eh : hi = h') (h1 : h' ≤ c) (w : World) :
    (Instr.slice t (.slice A l c) none (some (.int .i64 hi)) none).run P w = .ok (.slice A h' c) w := by
  subst eh
  obtain ⟨i, hi, hsz⟩ := Option.map_eq_some_iff.1 hs
  have a1 : (h' : Int) ≤ (c : Int) := by omega
  have hA : A.map (fun a => a.add 0) = A := by cases A <;> simp [Addr.add]
  simp [Instr.slice, run_underlying ht, Instr.sliceBounds, run_sliceBound, sizeOf, typeInfo, hi, hsz, a1, hA]
theorem twVs_take : ∀ (l : List (List UInt8 × Int)) (k : Nat), (twVs l).take (k * 2) = twVs (l.take k)
  | l, 0 => by simp [twVs]
  | [], k + 1 => by simp [twVs]
  | a :: l, k + 1 => by
    have := twVs_take l k
    show (twOne a ++ twVs l).take _ = twOne a ++ twVs (l.take k)
    rw [← this, show (k + 1) * 2 = (twOne a).length + k * 2 by simp [twOne]; omega, List.take_length_add_append]
theorem twVs_drop : ∀ (l : List (List UInt8 × Int)) (k : Nat), (twVs l).drop (k * 2) = twVs (l.drop k)
  | l, 0 => by simp
  | [], k + 1 => by simp [twVs]
  | a :: l, k + 1 => by
    have := twVs_drop l k
    show (twOne a ++ twVs l).drop _ = twVs (l.drop k)
    rw [← this, show (k + 1) * 2 = (twOne a).length + k * 2 by simp [twOne]; omega, List.drop_length_add_append]
theorem tw_head {w : World} {A : Option Addr} {l : List (List UInt8 × Int)} {m : Nat} (h : Rd w A (m * 2) (twVs l)) (k : Nat) (hk : k ≤ m) : Rd w A (k * 2) (twVs (l.take k)) := by
  have := h.cut 0 (k * 2) (m * 2) (by omega) (Nat.le_refl _)
  rwa [cutA_zero, List.drop_zero, twVs_take] at this
theorem tw_tail {w : World} {A : Option Addr} {l : List (List UInt8 × Int)} {m c : Nat} (h : Rd w A (m * 2) (twVs l)) (k : Nat) (hk : k ≤ m) (hc : m ≤ c) : Rd w (cutT 2 A k c) ((m - k) * 2) (twVs (l.drop k)) := by
  have hl : l.length = m := by have := h.1; rw [twVs_len] at this; omega
  by_cases he : k = m
  · rw [List.drop_of_length_le (by omega), show (m - k) * 2 = 0 by omega]
    exact Rd.nil _ _
  · have := h.tail (k * 2) (m * 2) (by omega) (Nat.le_refl _)
    rw [twVs_drop] at this
    unfold cutT
    unfold cutA at this
    rw [if_neg (by omega)] at this ⊢
    rwa [show (m - k) * 2 = m * 2 - k * 2 by omega]

/-- What Find answers. -/
def RetFi (es : List SE) (n : List UInt8) (w : World) (e : Ending) (w' : World) : Prop :=
  ∃ O ko, e = .returned (.slice O (findE es n).length ko) ∧ w'.ownsRow w.heap.size 41 2 (.slice O (findE es n).length ko) (findE es n).length (twVs (findE es n)) ∧ Below w.heap.size w w'
/-- The inner loop's state. -/
def FiS (w : World) (o : List (List UInt8 × Int)) (O : Option Addr) (m ko : Nat) (wr : World) : Prop := wr.ownsRow w.heap.size 41 2 (.slice O m ko) m (twVs o)

end Go.Proofs.Ytfjafpbmgbnllaa
