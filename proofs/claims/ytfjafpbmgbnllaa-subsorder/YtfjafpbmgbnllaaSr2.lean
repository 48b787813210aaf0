/-
  What is proved here: the document's index of layer 13 in memory; what its Of returns. Conditions: at most a million entries.
-/
import Derived.Test.YtfjafpbmgbnllaaSr1
import Derived.Great.BuildSlice
namespace Go.Proofs.Ytfjafpbmgbnllaa
set_option linter.unusedVariables false
set_option linter.unusedSimpArgs false
open Go.RowKit

/-- A slice of one whole row. -/
theorem wpList_bsS {P : Program} {w : World} {ops : Array Oper} {rest : List Oper} {o : Oper} {a : Act} {Q : Exit → Act → World → Prop} (hgd : o.guard = none) (t e : TypeId) (x : Operand) (ho : o.op = .buildSlice t 1 #[(0, x)])
    (hu : P.underlying t = some (.slice e)) (s : Nat) (hs0 : 0 < s) (hs : s ≤ 16777216) (hinfo : (P.info? e).map (fun i => (i.size, i.zero.isSome)) = some (s, true)) (cs : Array Value) (hcs : cs.size = s) (hx : a.eval x = .agg cs)
    (h : wpList P ops Q rest (a.put o.dst (.slice (some ⟨w.heap.size, 0, none⟩) 1 1)) (w.alloc (.cells cs e))) : wpList P ops Q (o :: rest) a w := by
  cases hie : P.info? e with
  | none => rw [hie] at hinfo; cases hinfo
  | some ie =>
    simp only [hie, Option.map_some, Option.some.injEq, Prod.mk.injEq] at hinfo
    obtain ⟨h1, h2⟩ := hinfo
    obtain ⟨z, hz⟩ := Option.isSome_iff_exists.1 h2
    refine wpList_buildSlice hgd t e 1 #[(0, x)] ho cs ie z hu hie hz (by rw [h1]; omega) (by rw [h1]; omega) ?_ h
    have hw := Great.fill_whole (s := ie.size) (by omega) [Value.agg cs] ((Array.range (1 * ie.size)).map (z.cells[· % z.cells.size]!)) (by intro v hv; simp at hv; subst hv; show cs.size = _; omega) (by simp)
    have e1 : ([Value.agg cs].flatMap fun v => v.cells.toList).toArray = cs := by simp [Value.cells]
    rw [e1] at hw
    rw [← hw]
    congr 1
    simp [hx]
theorem sub_info13 : (Try.prog.info? 33).map (fun i => (i.zero, i.size, i.bytes)) = some (some (.agg #[.string ByteArray.empty, .int .i64 0]), 2, 24) := by kernel_rfl
theorem want_info13 : (Try.prog.info? 41).map (fun i => (i.zero, i.size, i.bytes)) = some (some (.agg #[.string ByteArray.empty, .int .i64 0]), 2, 24) := by kernel_rfl
/-- What blocks a slice lies in. -/
def SoE (O : Option Addr) : Nat → Prop := fun i => ∃ o, O = some ⟨i, o, none⟩

section
variable {w w' : World} {g base : Nat} {es : List SE} {A : Option Addr} {k : Nat}
end

end Go.Proofs.Ytfjafpbmgbnllaa
