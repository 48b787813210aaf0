/-
  What is proved here: whole packets, loaded from and stored to their blocks. No condition of the program's. ALSO: a move, a check for nil, as single operations of a plain region. No condition.
-/
import Derived.Test.YtkgidimaiedocaaPkD
import Derived.Deep.DeepCutAuto
namespace Go.Proofs.Ytkgidimaiedocaa
set_option linter.unusedVariables false
set_option linter.unusedSimpArgs false
open Go.RowKit

theorem pkVs_one' (p : Pk) (C : Option Addr) (nc kc : Nat) (S : Option Addr) (ns ks : Nat) : ∀ v ∈ pkVs p C nc kc S ns ks, v.oneCell' = true := by
  intro v hv
  simp only [pkVs, List.mem_cons, List.not_mem_nil, or_false] at hv
  rcases hv with rfl | rfl | rfl | rfl | rfl | rfl | rfl | rfl | rfl | rfl | rfl | rfl | rfl | rfl | rfl | rfl | rfl | rfl <;> rfl
/-- A whole packet is read. -/
theorem wpList_loadP {P : Program} {w : World} {ops : Array Oper} {rest : List Oper} {o : Oper} {a : Act} {Q : Exit → Act → World → Prop} (hgd : o.guard = none) (ty : TypeId) (x : Operand) (ho : o.op = .load ty x) (g : Nat) (t : TypeId) (p : Pk) (C : Option Addr) (nc kc : Nat) (S : Option Addr) (ns ks : Nat)
    (hx : a.eval x = .pointer (some ⟨g, 0, none⟩)) (hB : Blk w g t (pkVs p C nc kc S ns ks)) {d : TypeDesc} (hu : P.underlying ty = some d) (hd : d.isRow = true) (hi : (P.info? ty).map (·.size) = some 18)
    (h : wpList P ops Q rest (a.put o.dst (pkA p C nc kc S ns ks)) w) : wpList P ops Q (o :: rest) a w := by
  refine wpList_plain hgd fun K hK => ?_
  have hr := run_loadAt_mid (P := P) w g 0 ty (pkVs p C nc kc S ns ks) d hB.range hu hd hi
  unfold Oper.wp execOp
  simp only [ho, hx, Sem.run_bind, hr, Result.andThen_ok]
  exact hK _ _ h
theorem Blk.p18 {w : World} {g : Nat} {t : TypeId} {p : Pk} {C : Option Addr} {nc kc : Nat} {S : Option Addr} {ns ks : Nat} (h : Blk w g t (pkVs p C nc kc S ns ks)) : w.cell? ⟨g, 0, none⟩ = some (.int .i64 p.ty) ∧ w.cell? ⟨g, 1, none⟩ = some (.bool p.dup) ∧ w.cell? ⟨g, 2, none⟩ = some (.int .i64 p.id) ∧ w.cell? ⟨g, 3, none⟩ = some (.string (str p.topic)) ∧ w.cell? ⟨g, 4, none⟩ = some (.string (str p.payload)) ∧ w.cell? ⟨g, 5, none⟩ = some (.int .i64 p.qos) ∧ w.cell? ⟨g, 6, none⟩ = some (.bool p.retain) ∧ w.cell? ⟨g, 7, none⟩ = some (.string (str p.client)) ∧ w.cell? ⟨g, 8, none⟩ = some (.bool p.clean) ∧ w.cell? ⟨g, 9, none⟩ = some (.int .i64 p.alive) ∧ w.cell? ⟨g, 10, none⟩ = some (.bool p.hasWill) ∧ w.cell? ⟨g, 11, none⟩ = some (.bool p.hasUser) ∧ w.cell? ⟨g, 12, none⟩ = some (.bool p.hasPass) ∧ w.cell? ⟨g, 13, none⟩ = some (.string (str p.user)) ∧ w.cell? ⟨g, 14, none⟩ = some (.string (str p.pass)) ∧ w.cell? ⟨g, 15, none⟩ = some (.bool p.present) ∧ w.cell? ⟨g, 16, none⟩ = some (.slice C nc kc) ∧ w.cell? ⟨g, 17, none⟩ = some (.slice S ns ks) := h.c18
/-- A packet that is boxed. -/
theorem boxedP {w W : World} {t : TypeId} {p : Pk} {C : Option Addr} {nc kc : Nat} {S : Option Addr} {ns ks : Nat} (h : w.alloc (.cells (arr (pkVs p C nc kc S ns ks)) t) = W) : ∃ g, w.heap.size = g ∧ Blk W g t (pkVs p C nc kc S ns ks) ∧ Below g w W ∧ W.heap.size = g + 1 := by
  subst h
  exact ⟨_, rfl, Blk.new w t _, (Below.refl _ _).alloc (Nat.le_refl _) _, by simp⟩

/-- A whole packet is stored. -/
theorem wpList_storeP {P : Program} {w : World} {ops : Array Oper} {rest : List Oper} {o : Oper} {a : Act} {Q : Exit → Act → World → Prop} (hgd : o.guard = none) (ty : TypeId) (x y : Operand) (ho : o.op = .store ty x y) (g : Nat) (t : TypeId) (q : Pk) (C2 : Option Addr) (nc2 kc2 : Nat) (S2 : Option Addr) (ns2 ks2 : Nat) (p : Pk) (C : Option Addr) (nc kc : Nat) (S : Option Addr) (ns ks : Nat)
    (hx : a.eval x = .pointer (some ⟨g, 0, none⟩)) (hy : a.eval y = pkA p C nc kc S ns ks) (hB : Blk w g t (pkVs q C2 nc2 kc2 S2 ns2 ks2)) (hi : (P.info? ty).map (·.size) = some 18)
    (h : ∀ w', Blk w' g t (pkVs p C nc kc S ns ks) → (∀ B v, B ≤ g → Below B v w → Below B v w') → wpList P ops Q rest (a.put o.dst undef) w') : wpList P ops Q (o :: rest) a w :=
  wpList_plain hgd fun K hK => op_storeB ty x y ho g t (pkVs q C2 nc2 kc2 S2 ns2 ks2) (pkVs p C nc kc S ns ks) hx hy hB rfl hi (pkVs_one' _ _ _ _ _ _ _) fun w' h2 h3 => hK _ _ (h w' h2 h3)

end Go.Proofs.Ytkgidimaiedocaa

namespace Go.Proofs.Ytkgidimaiedocaa
set_option linter.unusedVariables false
set_option linter.unusedSimpArgs false
open Go.RowKit

theorem wpList_mv {P : Program} {w : World} {ops : Array Oper} {rest : List Oper} {o : Oper} {a : Act} {Q : Exit → Act → World → Prop} (hgd : o.guard = none) (x : Operand) (ho : o.op = .move x) (h : wpList P ops Q rest (a.put o.dst (a.eval x)) w) : wpList P ops Q (o :: rest) a w := by
  refine wpList_plain hgd fun K hK => ?_
  unfold Oper.wp execOp
  simp only [ho, Sem.run_pure, Result.andThen_ok]
  exact hK _ _ h
theorem wpList_nc {P : Program} {w : World} {ops : Array Oper} {rest : List Oper} {o : Oper} {a : Act} {Q : Exit → Act → World → Prop} (hgd : o.guard = none) (x : Operand) (ho : o.op = .nilCheck x) (p : Addr) (hx : a.eval x = .pointer (some p)) (h : wpList P ops Q rest (a.put o.dst (.pointer (some p))) w) : wpList P ops Q (o :: rest) a w := by
  refine wpList_plain hgd fun K hK => ?_
  unfold Oper.wp execOp
  simp only [ho, hx]
  first
    | exact hK _ _ h
    | (go_simp; exact hK _ _ h)
/-- A whole packet is read, where the guard says yes. -/
theorem wpList_loadPg {P : Program} {w : World} {ops : Array Oper} {rest : List Oper} {o : Oper} {a : Act} {Q : Exit → Act → World → Prop} (hw : Region.wanted o (yielded ops a.tmps) = true) (ty : TypeId) (x : Operand) (ho : o.op = .load ty x) (g : Nat) (t : TypeId) (p : Pk) (C : Option Addr) (nc kc : Nat) (S : Option Addr) (ns ks : Nat)
    (hx : a.eval x = .pointer (some ⟨g, 0, none⟩)) (hB : Blk w g t (pkVs p C nc kc S ns ks)) {d : TypeDesc} (hu : P.underlying ty = some d) (hd : d.isRow = true) (hi : (P.info? ty).map (·.size) = some 18)
    (h : wpList P ops Q rest (a.put o.dst (pkA p C nc kc S ns ks)) w) : wpList P ops Q (o :: rest) a w := by
  refine wpList_step fun K hK => ?_
  rw [if_pos hw]
  have hr := run_loadAt_mid (P := P) w g 0 ty (pkVs p C nc kc S ns ks) d hB.range hu hd hi
  unfold Oper.wp execOp
  simp only [ho, hx, Sem.run_bind, hr, Result.andThen_ok]
  exact hK _ _ h
/-- A whole packet is stored: nothing but its block turns. -/
theorem wpList_storeQ {P : Program} {w : World} {ops : Array Oper} {rest : List Oper} {o : Oper} {a : Act} {Q : Exit → Act → World → Prop} (hgd : o.guard = none) (ty : TypeId) (x y : Operand) (ho : o.op = .store ty x y) (g : Nat) (t : TypeId) (q : Pk) (C2 : Option Addr) (nc2 kc2 : Nat) (S2 : Option Addr) (ns2 ks2 : Nat) (p : Pk) (C : Option Addr) (nc kc : Nat) (S : Option Addr) (ns ks : Nat)
    (hx : a.eval x = .pointer (some ⟨g, 0, none⟩)) (hy : a.eval y = pkA p C nc kc S ns ks) (hB : Blk w g t (pkVs q C2 nc2 kc2 S2 ns2 ks2)) (hi : (P.info? ty).map (·.size) = some 18)
    (h : ∀ w', Blk w' g t (pkVs p C nc kc S ns ks) → But (fun i => i = g) w w' → wpList P ops Q rest (a.put o.dst undef) w') : wpList P ops Q (o :: rest) a w := by
  refine wpList_plain hgd fun K hK => ?_
  have hr := run_storeVar_row (P := P) w g t ty (arr (pkVs q C2 nc2 kc2 S2 ns2 ks2)) (arr (pkVs p C nc kc S ns ks)) hB (by rw [arr_size]; exact hi) (by rw [arr_size, arr_size]; rfl) (all_oneCell_toArray (pkVs_one' _ _ _ _ _ _ _))
  have hy' : a.eval y = .agg (arr (pkVs p C nc kc S ns ks)) := hy
  unfold Oper.wp execOp
  simp only [ho, hx, hy', Instr.storeAt, Instr.sureAddr, Sem.run_bind, Sem.run_pure, Result.andThen_ok, hr]
  exact hK _ _ (h _ (hB.setRow _) ⟨rfl, rfl, rfl, by simp [World.setRow], fun i _ hne => by
    have hne' : ¬ g = i := fun e => hne e.symm
    simp [World.setRow, Array.getElem?_modify, hne']⟩)

end Go.Proofs.Ytkgidimaiedocaa
