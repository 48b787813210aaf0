/-
  What is proved here: packets in memory (PkM): their cells, their lists. Nothing of the program is named. No condition.
-/
import Derived.Test.YtkgidimaiedocaaPkMath
import Derived.Test.YtkgidimaiedocaaMem5
import Derived.Test.YtkgidimaiedocaaInfo
import Derived.Test.YtkgidimaiedocaaStructs
import Derived.LoopTactic
import Derived.WalkMore
namespace Go.Proofs.Ytkgidimaiedocaa
set_option linter.unusedVariables false
set_option linter.unusedSimpArgs false
open Go.RowKit

/-- Filters as cells. -/
def subVs (l : List (List UInt8 × Int)) : List Value := l.flatMap fun s => [.string (str s.1), .int .i64 s.2]
theorem subVs_length (l : List (List UInt8 × Int)) : (subVs l).length = l.length * 2 := by
  induction l with
  | nil => rfl
  | cons s l ih =>
    show ([Value.string (str s.1), .int .i64 s.2] ++ subVs l).length = _
    rw [List.length_append, ih]
    show 2 + l.length * 2 = (l.length + 1) * 2
    omega
theorem subVs_append (l m : List (List UInt8 × Int)) : subVs (l ++ m) = subVs l ++ subVs m := List.flatMap_append
theorem subVs_get : ∀ (l : List (List UInt8 × Int)) (i : Nat) (h : i < l.length), (subVs l)[i * 2]? = some (.string (str l[i].1)) ∧ (subVs l)[i * 2 + 1]? = some (.int .i64 l[i].2)
  | [], _, h => by simp at h
  | s :: l, 0, _ => ⟨rfl, rfl⟩
  | s :: l, i + 1, h => by
    have := subVs_get l i (by simpa using h)
    have e : ∀ j, (subVs (s :: l))[j + 2]? = (subVs l)[j]? := fun j => rfl
    rw [show (i + 1) * 2 = i * 2 + 2 by omega, show i * 2 + 2 + 1 = (i * 2 + 1) + 2 by omega, e, e]
    exact this
theorem subVs_one (l : List (List UInt8 × Int)) : ∀ u ∈ subVs l, u.oneCell' = true := by
  intro u hu
  simp only [subVs, List.mem_flatMap] at hu
  obtain ⟨s, _, hu⟩ := hu
  simp at hu
  rcases hu with rfl | rfl <;> rfl

/-- A packet's cells. -/
def pkVs (p : Pk) (C : Option Addr) (nc kc : Nat) (S : Option Addr) (ns ks : Nat) : List Value :=
  [.int .i64 p.ty, .bool p.dup, .int .i64 p.id, .string (str p.topic), .string (str p.payload), .int .i64 p.qos, .bool p.retain, .string (str p.client), .bool p.clean, .int .i64 p.alive, .bool p.hasWill, .bool p.hasUser, .bool p.hasPass, .string (str p.user), .string (str p.pass), .bool p.present, .slice C nc kc, .slice S ns ks]
def pkA (p : Pk) (C : Option Addr) (nc kc : Nat) (S : Option Addr) (ns ks : Nat) : Value :=
  .agg #[.int .i64 p.ty, .bool p.dup, .int .i64 p.id, .string (str p.topic), .string (str p.payload), .int .i64 p.qos, .bool p.retain, .string (str p.client), .bool p.clean, .int .i64 p.alive, .bool p.hasWill, .bool p.hasUser, .bool p.hasPass, .string (str p.user), .string (str p.pass), .bool p.present, .slice C nc kc, .slice S ns ks]
/-- Its lists in memory. -/
def PkM (w : World) (p : Pk) (C : Option Addr) (nc kc : Nat) (S : Option Addr) (ns ks : Nat) : Prop :=
  p.codes.length = nc ∧ nc ≤ kc ∧ Rd w C nc (iv p.codes) ∧ p.subs.length = ns ∧ ns ≤ ks ∧ Rd w S (ns * 2) (subVs p.subs)
theorem PkM.keep {w w' : World} {p : Pk} {C S : Option Addr} {nc kc ns ks : Nat} (h : PkM w p C nc kc S ns ks) (b : Below w.heap.size w w') : PkM w' p C nc kc S ns ks :=
  ⟨h.1, h.2.1, h.2.2.1.keep b, h.2.2.2.1, h.2.2.2.2.1, h.2.2.2.2.2.keep b⟩

/-- Strings and lists are short. -/
def PkS (p : Pk) : Prop := p.topic.length ≤ 65535 ∧ p.payload.length ≤ 65535 ∧ p.client.length ≤ 65535 ∧ p.user.length ≤ 65535 ∧ p.pass.length ≤ 65535 ∧ p.codes.length ≤ 65535 ∧ p.subs.length ≤ 65535 ∧ ∀ s ∈ p.subs, s.1.length ≤ 65535

/-- Strings and lists are of at most 2^20. -/
def PkU (p : Pk) : Prop := p.topic.length ≤ 1048576 ∧ p.payload.length ≤ 1048576 ∧ p.client.length ≤ 1048576 ∧ p.user.length ≤ 1048576 ∧ p.pass.length ≤ 1048576 ∧ p.codes.length ≤ 1048576 ∧ p.subs.length ≤ 1048576 ∧ ∀ s ∈ p.subs, s.1.length ≤ 1048576
theorem PkS.u {p : Pk} (h : PkS p) : PkU p := by
  obtain ⟨h1, h2, h3, h4, h5, h6, h7, h8⟩ := h
  exact ⟨by omega, by omega, by omega, by omega, by omega, by omega, by omega, fun s hs => by have := h8 s hs; omega⟩
instance (p : Pk) : Coe (PkS p) (PkU p) := ⟨PkS.u⟩

/-! ### A block of eighteen cells -/
theorem boxed18 {w W : World} {t : TypeId} {x0 x1 x2 x3 x4 x5 x6 x7 x8 x9 x10 x11 x12 x13 x14 x15 x16 x17 : Value} (h : w.alloc (.cells #[x0, x1, x2, x3, x4, x5, x6, x7, x8, x9, x10, x11, x12, x13, x14, x15, x16, x17] t) = W) : Blk W w.heap.size t [x0, x1, x2, x3, x4, x5, x6, x7, x8, x9, x10, x11, x12, x13, x14, x15, x16, x17] ∧ Below w.heap.size w W ∧ W.heap.size = w.heap.size + 1 := by
  rw [← h]
  exact ⟨Blk.new w t [x0, x1, x2, x3, x4, x5, x6, x7, x8, x9, x10, x11, x12, x13, x14, x15, x16, x17], (Below.refl _ _).alloc (Nat.le_refl _) _, by simp⟩
theorem Blk.c18 {w : World} {g : Nat} {t : TypeId} {x0 x1 x2 x3 x4 x5 x6 x7 x8 x9 x10 x11 x12 x13 x14 x15 x16 x17 : Value} (h : Blk w g t [x0, x1, x2, x3, x4, x5, x6, x7, x8, x9, x10, x11, x12, x13, x14, x15, x16, x17]) : w.cell? ⟨g, 0, none⟩ = some x0 ∧ w.cell? ⟨g, 1, none⟩ = some x1 ∧ w.cell? ⟨g, 2, none⟩ = some x2 ∧ w.cell? ⟨g, 3, none⟩ = some x3 ∧ w.cell? ⟨g, 4, none⟩ = some x4 ∧ w.cell? ⟨g, 5, none⟩ = some x5 ∧ w.cell? ⟨g, 6, none⟩ = some x6 ∧ w.cell? ⟨g, 7, none⟩ = some x7 ∧ w.cell? ⟨g, 8, none⟩ = some x8 ∧ w.cell? ⟨g, 9, none⟩ = some x9 ∧ w.cell? ⟨g, 10, none⟩ = some x10 ∧ w.cell? ⟨g, 11, none⟩ = some x11 ∧ w.cell? ⟨g, 12, none⟩ = some x12 ∧ w.cell? ⟨g, 13, none⟩ = some x13 ∧ w.cell? ⟨g, 14, none⟩ = some x14 ∧ w.cell? ⟨g, 15, none⟩ = some x15 ∧ w.cell? ⟨g, 16, none⟩ = some x16 ∧ w.cell? ⟨g, 17, none⟩ = some x17 :=
  ⟨h.cell 0, h.cell 1, h.cell 2, h.cell 3, h.cell 4, h.cell 5, h.cell 6, h.cell 7, h.cell 8, h.cell 9, h.cell 10, h.cell 11, h.cell 12, h.cell 13, h.cell 14, h.cell 15, h.cell 16, h.cell 17⟩

end Go.Proofs.Ytkgidimaiedocaa
