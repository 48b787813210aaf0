/-
  What is proved here: structs in memory: stored whole, handed back from a variable of their own, cells that others do not touch. Nothing of the program is named.
-/
import Derived.Test.YtfjafpbmgbnllaaGreatBase
import Derived.Deep.MidRow
import Derived.Laws.NewBlocks
namespace Go.Proofs.YtfjafpbmgbnllaaGreat
set_option linter.unusedVariables false
set_option linter.unusedSimpArgs false
open Go.RowKit

/-- A whole struct is stored where one lies. -/
theorem op_storeB {P : Program} {w : World} {op : Oper} {a : Act} {K : Act → World → Prop} {Q : Exit → Act → World → Prop} (ty : TypeId) (x y : Operand) (ho : op.op = .store ty x y) (g : Nat) (t : TypeId) (cs cs' : List Value)
    (hx : a.eval x = .pointer (some ⟨g, 0, none⟩)) (hy : a.eval y = .agg (arr cs')) (hB : Blk w g t cs) (hlen : cs.length = cs'.length) (hi : (P.info? ty).map (·.size) = some cs'.length) (h1 : ∀ v ∈ cs', v.oneCell' = true)
    (h : ∀ w', Blk w' g t cs' → (∀ B v, B ≤ g → Below B v w → Below B v w') → K (a.put op.dst undef) w') : op.wp P a w K Q := by
  have hr := run_storeVar_row (P := P) w g t ty (arr cs) (arr cs') hB (by rw [arr_size]; exact hi) (by rw [arr_size, arr_size]; exact hlen) (all_oneCell_toArray h1)
  unfold Oper.wp execOp
  simp only [ho, hx, hy, Instr.storeAt, Instr.sureAddr, Sem.run_bind, Sem.run_pure, Result.andThen_ok, hr]
  exact h _ (hB.setRow cs') fun B v hBg hb => below_setRow hb hBg _

/-- Nothing but what was drawn is other. -/
theorem below_same {B : Nat} {a w w' : World} (h : Below B a w) (e1 : w'.heap = w.heap) (e2 : w'.os = w.os) (e3 : w'.tape = w.tape) (e4 : w'.output = w.output) : Below B a w' :=
  ⟨e2.trans h.os, e3.trans h.tape, e4.trans h.output, by rw [e1]; exact h.size, fun i hi => by rw [e1]; exact h.block i hi⟩

theorem Blk.oth {w : World} {g : Nat} {t : TypeId} {cs : List Value} (h : Blk w g t cs) {G : Nat} (hne : G ≠ g) (i : Nat) (v : Value) : Blk (w.setCell ⟨G, i, none⟩ v) g t cs := by
  unfold Blk at h ⊢
  simp [World.setCell, Array.getElem?_modify, h, hne]
theorem Blk.al {w : World} {g : Nat} {t : TypeId} {cs : List Value} (h : Blk w g t cs) (o : Obj) : Blk (w.alloc o) g t cs := h.keep ((Below.refl _ _).alloc (Nat.le_refl _) _)
theorem Rd.set1 {w : World} {A : Option Addr} {n : Nat} {vs : List Value} (h : Rd w A n vs) {g : Nat} (hne : ∀ b o, A = some ⟨b, o, none⟩ → b ≠ g) (i : Nat) (v : Value) : Rd (w.setCell ⟨g, i, none⟩ v) A n vs :=
  ⟨h.1, fun hn => by
    obtain ⟨b, o, e, hl, hc⟩ := h.2 hn
    refine ⟨b, o, e, by simpa using hl, fun j u hu => ?_⟩
    rw [World.cell?_setCell_far _ _ _ _ (by exact fun e' => hne b o e e'.symm)]
    exact hc j u hu⟩
theorem Rd.al {w : World} {A : Option Addr} {n : Nat} {vs : List Value} (h : Rd w A n vs) (o : Obj) : Rd (w.alloc o) A n vs := h.keep ((Below.refl _ _).alloc (Nat.le_refl _) _)
theorem Blk.set7 {w : World} {g : Nat} {t : TypeId} {x0 x1 x2 x3 x4 x5 x6 : Value} (h : Blk w g t [x0, x1, x2, x3, x4, x5, x6]) (v0 v1 v2 v3 v4 v5 v6 : Value) : Blk (((((((w.setCell ⟨g, 0, none⟩ v0).setCell ⟨g, 1, none⟩ v1).setCell ⟨g, 2, none⟩ v2).setCell ⟨g, 3, none⟩ v3).setCell ⟨g, 4, none⟩ v4).setCell ⟨g, 5, none⟩ v5).setCell ⟨g, 6, none⟩ v6) g t [v0, v1, v2, v3, v4, v5, v6] :=
  ((((((h.set 0 v0).set 1 v1).set 2 v2).set 3 v3).set 4 v4).set 5 v5).set 6 v6
theorem below_set7 {B : Nat} {a w : World} (h : Below B a w) {g : Nat} (hg : B ≤ g) (v0 v1 v2 v3 v4 v5 v6 : Value) : Below B a (((((((w.setCell ⟨g, 0, none⟩ v0).setCell ⟨g, 1, none⟩ v1).setCell ⟨g, 2, none⟩ v2).setCell ⟨g, 3, none⟩ v3).setCell ⟨g, 4, none⟩ v4).setCell ⟨g, 5, none⟩ v5).setCell ⟨g, 6, none⟩ v6) :=
  ((((((h.setCell hg v0).setCell hg v1).setCell hg v2).setCell hg v3).setCell hg v4).setCell hg v5).setCell hg v6
theorem Rd.set7 {w : World} {A : Option Addr} {n : Nat} {vs : List Value} (h : Rd w A n vs) {g : Nat} (hne : ∀ b o, A = some ⟨b, o, none⟩ → b ≠ g) (v0 v1 v2 v3 v4 v5 v6 : Value) : Rd (((((((w.setCell ⟨g, 0, none⟩ v0).setCell ⟨g, 1, none⟩ v1).setCell ⟨g, 2, none⟩ v2).setCell ⟨g, 3, none⟩ v3).setCell ⟨g, 4, none⟩ v4).setCell ⟨g, 5, none⟩ v5).setCell ⟨g, 6, none⟩ v6) A n vs :=
  ((((((h.set1 hne 0 v0).set1 hne 1 v1).set1 hne 2 v2).set1 hne 3 v3).set1 hne 4 v4).set1 hne 5 v5).set1 hne 6 v6
theorem Blk.set2 {w : World} {g : Nat} {t : TypeId} {x0 x1 : Value} (h : Blk w g t [x0, x1]) (v0 v1 : Value) : Blk ((w.setCell ⟨g, 0, none⟩ v0).setCell ⟨g, 1, none⟩ v1) g t [v0, v1] := (h.set 0 v0).set 1 v1
theorem below_set2 {B : Nat} {a w : World} (h : Below B a w) {g : Nat} (hg : B ≤ g) (v0 v1 : Value) : Below B a ((w.setCell ⟨g, 0, none⟩ v0).setCell ⟨g, 1, none⟩ v1) := (h.setCell hg v0).setCell hg v1
theorem Rd.set2 {w : World} {A : Option Addr} {n : Nat} {vs : List Value} (h : Rd w A n vs) {g : Nat} (hne : ∀ b o, A = some ⟨b, o, none⟩ → b ≠ g) (v0 v1 : Value) : Rd ((w.setCell ⟨g, 0, none⟩ v0).setCell ⟨g, 1, none⟩ v1) A n vs := (h.set1 hne 0 v0).set1 hne 1 v1
theorem rd_new (w : World) (G : Nat) (hG : G = w.heap.size) (t : TypeId) (cs : List Value) (n : Nat) (hn : cs.length = n) : Rd (w.alloc (.cells (arr cs) t)) (some ⟨G, 0, none⟩) n cs := by
  subst hG hn
  exact (Blk.new w t cs).rd

theorem Blk.range {w : World} {g : Nat} {t : TypeId} {cs : List Value} (h : Blk w g t cs) : w.rangeAt g 0 cs := fun j v hv => by
  rw [Nat.zero_add, h.cell]; exact hv
/-- A result that is a variable of its own. -/
theorem results_cell {P : Program} {fn : Func} {a : Tmp} {t : TypeId} (h : fn.results = #[.cell a t]) {tmps : Array Value} {w : World} {g : Nat} {bt : TypeId} {cs : List Value} (ha : tmps.getD a undef = .pointer (some ⟨g, 0, none⟩)) (hB : Blk w g bt cs)
    {d : TypeDesc} (hu : P.underlying t = some d) (hd : d.isRow = true) (hi : (P.info? t).map (·.size) = some cs.length) : (results fn tmps).run P w = .ok (.agg cs.toArray) w := by
  rw [Array.getD_eq_getD_getElem?] at ha
  simp [results, h, ha, asAddr, run_loadVar_mid w g 0 t cs d hB.range hu hd hi]
theorem results_cell_tmp {P : Program} {fn : Func} {a b : Tmp} {t : TypeId} (h : fn.results = #[.cell a t, .tmp b]) {tmps : Array Value} {w : World} {g : Nat} {bt : TypeId} {cs : List Value} (ha : tmps.getD a undef = .pointer (some ⟨g, 0, none⟩)) (hB : Blk w g bt cs)
    {d : TypeDesc} (hu : P.underlying t = some d) (hd : d.isRow = true) (hi : (P.info? t).map (·.size) = some cs.length) : (results fn tmps).run P w = .ok (.tuple #[.agg cs.toArray, tmps.getD b undef]) w := by
  rw [Array.getD_eq_getD_getElem?] at ha
  simp [results, h, ha, asAddr, run_loadVar_mid w g 0 t cs d hB.range hu hd hi]

theorem two_boxes (w : World) (l1 l2 : List Value) (t1 t2 : TypeId) (W : World) (hW : W = (w.alloc (.cells (arr l1) t1)).alloc (.cells (arr l2) t2)) :
    Blk W w.heap.size t1 l1 ∧ Blk W (w.heap.size + 1) t2 l2 ∧ Below w.heap.size w W ∧ W.heap.size = w.heap.size + 2 := by
  subst hW
  have h1 := Blk.new w t1 l1
  have h2 := Blk.new (w.alloc (.cells (arr l1) t1)) t2 l2
  simp only [World.size_alloc] at h2
  exact ⟨h1.al _, h2, (((Below.refl _ _).alloc (Nat.le_refl _) _).alloc (by simp) _), by simp⟩

end Go.Proofs.YtfjafpbmgbnllaaGreat
