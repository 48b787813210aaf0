/-
  What is proved here: what it is that a slave lies in memory (a struct of four rows, each in a block of its own), and that it stays so; what a slave does, as plain functions of lists. No condition of its own.
-/
import Derived.Test.YtohiblldhdglgaaPdu3
import Derived.Test.YtohiblldhdglgaaStructs
namespace Go.Proofs.Ytohiblldhdglgaa
set_option linter.unusedVariables false
set_option linter.unusedSimpArgs false
open Go.RowKit

/-- But for the blocks from lo on, ahead of hi, all that was there is as it was. -/
structure Oth (lo hi : Nat) (w w' : World) : Prop where
  os : w'.os = w.os
  tape : w'.tape = w.tape
  output : w'.output = w.output
  size : w.heap.size ≤ w'.heap.size
  block : ∀ i, i < w.heap.size → (i < lo ∨ hi ≤ i) → w'.heap[i]? = w.heap[i]?

section
variable {lo hi : Nat} {w w' w'' : World}
theorem Oth.ofBelow (h : Below w.heap.size w w') (lo hi : Nat) : Oth lo hi w w' := ⟨h.os, h.tape, h.output, h.size, fun i hi _ => h.block i hi⟩
theorem Oth.refl (lo hi : Nat) (w : World) : Oth lo hi w w := Oth.ofBelow (Below.refl _ _) lo hi
theorem Oth.trans (h : Oth lo hi w w') (k : Oth lo hi w' w'') : Oth lo hi w w'' :=
  ⟨k.os.trans h.os, k.tape.trans h.tape, k.output.trans h.output, Nat.le_trans h.size k.size, fun i hi ho => (k.block i (Nat.lt_of_lt_of_le hi h.size) ho).trans (h.block i hi ho)⟩
theorem Oth.on (h : Oth lo hi w w') (k : Below w'.heap.size w' w'') : Oth lo hi w w'' := h.trans (Oth.ofBelow k lo hi)
theorem Oth.after (h : Below w.heap.size w w') (k : Oth lo hi w' w'') : Oth lo hi w w'' := (Oth.ofBelow h lo hi).trans k
theorem Oth.wide {lo' hi' : Nat} (h : Oth lo hi w w') (h1 : lo' ≤ lo) (h2 : hi ≤ hi') : Oth lo' hi' w w' := ⟨h.os, h.tape, h.output, h.size, fun i hi ho => h.block i hi (by omega)⟩
theorem Oth.setCell {g i : Nat} (w : World) (v : Value) : Oth g (g + 1) w (w.setCell ⟨g, i, none⟩ v) :=
  ⟨rfl, rfl, rfl, by simp [World.setCell], fun k _ ho => Below.heap_setCell _ _ _ _ (by show k ≠ g; omega)⟩
theorem Oth.setRow (w : World) (g : Nat) (cs : Array Value) : Oth g (g + 1) w (w.setRow g cs) :=
  ⟨rfl, rfl, rfl, by simp, fun k _ ho => setRow_other w g k cs (by omega)⟩
theorem Oth.setNew {g i : Nat} {v : Value} (h : Oth lo hi w w') (hg : w.heap.size ≤ g) : Oth lo hi w (w'.setCell ⟨g, i, none⟩ v) :=
  ⟨h.os, h.tape, h.output, by simpa [World.setCell] using h.size, fun k hk ho => (Below.heap_setCell _ _ _ _ (by show k ≠ g; omega)).trans (h.block k hk ho)⟩
theorem below_out {B : Nat} {v : World} (h : Below B v w) (k : Oth lo hi w w') (hB : B ≤ lo) (hw : B ≤ w.heap.size) : Below B v w' :=
  ⟨k.os.trans h.os, k.tape.trans h.tape, k.output.trans h.output, Nat.le_trans h.size k.size, fun i hi => (k.block i (by omega) (Or.inl (by omega))).trans (h.block i hi)⟩
theorem Blk.out {g : Nat} {t : TypeId} {cs : List Value} (h : Blk w g t cs) (k : Oth lo hi w w') (hg : g < lo ∨ hi ≤ g) : Blk w' g t cs := (k.block g h.lt hg).trans h
theorem Rd.out {A : Option Addr} {n : Nat} {vs : List Value} (h : Rd w A n vs) (k : Oth lo hi w w') (hg : ∀ b o, A = some ⟨b, o, none⟩ → b < lo ∨ hi ≤ b) : Rd w' A n vs :=
  ⟨h.1, fun hn => by
    obtain ⟨b, o, e, hl, hc⟩ := h.2 hn
    exact ⟨b, o, e, Nat.lt_of_lt_of_le hl k.size, fun i v hv => (World.cell?_of_block (w := w) (k.block b hl (hg b o e))).trans (hc i v hv)⟩⟩
end

/-- A row as it lies in the struct. -/
def rowV (b : Nat → Nat) (R : Nat → List Int) (k : Nat) : Value := .slice (some ⟨b k, 0, none⟩) (R k).length (R k).length
/-- A slave lies in memory: the struct in g, its rows in b 0 to b 3, all between lo and hi. -/
structure SlA (tS : TypeId) (lo hi : Nat) (w : World) (g : Nat) (b : Nat → Nat) (R : Nat → List Int) : Prop where
  str : Blk w g tS [rowV b R 0, rowV b R 1, rowV b R 2, rowV b R 3]
  row : ∀ k, k < 4 → Blk w (b k) 3 (iv (R k))
  gl : lo ≤ g
  gh : g < hi
  bl : ∀ k, k < 4 → lo ≤ b k ∧ b k < hi ∧ b k ≠ g
  ap : ∀ j k, j < 4 → k < 4 → j ≠ k → b j ≠ b k
  hi : hi ≤ w.heap.size

/-- Row k is another. -/
def upd (R : Nat → List Int) (k : Nat) (l : List Int) : Nat → List Int := fun j => if j = k then l else R j
theorem upd_same (R : Nat → List Int) (k : Nat) (l : List Int) : upd R k l k = l := by simp [upd]
theorem upd_oth (R : Nat → List Int) (k : Nat) (l : List Int) (j : Nat) (h : j ≠ k) : upd R k l j = R j := by simp [upd, h]
theorem rowV_upd (b : Nat → Nat) (R : Nat → List Int) (k : Nat) (l : List Int) (hl : l.length = (R k).length) (j : Nat) : rowV b (upd R k l) j = rowV b R j := by
  unfold rowV upd
  by_cases h : j = k
  · subst h; simp [hl]
  · simp [h]

section
variable {tS : TypeId} {lo hi : Nat} {w w' : World} {g : Nat} {b : Nat → Nat} {R : Nat → List Int}
theorem SlA.out {lo' hi' : Nat} (h : SlA tS lo hi w g b R) (k : Oth lo' hi' w w') (hd : hi ≤ lo' ∨ hi' ≤ lo) : SlA tS lo hi w' g b R :=
  ⟨h.str.out k (by have := h.gl; have := h.gh; omega), fun j hj => (h.row j hj).out k (by have := h.bl j hj; omega), h.gl, h.gh, h.bl, h.ap, Nat.le_trans h.hi k.size⟩
theorem SlA.keep (h : SlA tS lo hi w g b R) (k : Below w.heap.size w w') : SlA tS lo hi w' g b R := h.out (Oth.ofBelow k hi hi) (Or.inl (Nat.le_refl _))
theorem SlA.set (h : SlA tS lo hi w g b R) (k : Nat) (hk : k < 4) (l : List Int) (hl : l.length = (R k).length) (o : Oth (b k) (b k + 1) w w') (hB : Blk w' (b k) 3 (iv l)) : SlA tS lo hi w' g b (upd R k l) :=
  ⟨by rw [rowV_upd b R k l hl, rowV_upd b R k l hl, rowV_upd b R k l hl, rowV_upd b R k l hl]; exact h.str.out o (by have := h.bl k hk; omega),
   fun j hj => by
     by_cases e : j = k
     · subst e; rw [upd_same]; exact hB
     · rw [upd_oth _ _ _ _ e]; exact (h.row j hj).out o (by have := h.ap j k hj hk e; omega),
   h.gl, h.gh, h.bl, h.ap, Nat.le_trans h.hi o.size⟩
theorem SlA.wide (h : SlA tS lo hi w g b R) (k : Nat) (hk : k < 4) (o : Oth (b k) (b k + 1) w w') : Oth lo hi w w' := o.wide (h.bl k hk).1 (h.bl k hk).2.1
theorem SlA.cells (h : SlA tS lo hi w g b R) : w.cell? ⟨g, 0, none⟩ = some (rowV b R 0) ∧ w.cell? ⟨g, 1, none⟩ = some (rowV b R 1) ∧ w.cell? ⟨g, 2, none⟩ = some (rowV b R 2) ∧ w.cell? ⟨g, 3, none⟩ = some (rowV b R 3) :=
  ⟨h.str.cell 0, h.str.cell 1, h.str.cell 2, h.str.cell 3⟩
theorem SlA.drewN (h : SlA tS lo hi w g b R) (n : Nat) : SlA tS lo hi (w.drewN n) g b R := h.keep (below_drewN (Below.refl _ _) n)
end

/-! ### What a slave does -/
/-- The row of a kind; none, where there is no such kind. -/
def rowL (R : Nat → List Int) (kind : Int) : List Int := if kind = 1 then R 0 else if kind = 2 then R 1 else if kind = 3 then R 2 else if kind = 4 then R 3 else []
def rowA (b : Nat → Nat) (kind : Int) : Option Addr := if kind = 1 then some ⟨b 0, 0, none⟩ else if kind = 2 then some ⟨b 1, 0, none⟩ else if kind = 3 then some ⟨b 2, 0, none⟩ else if kind = 4 then some ⟨b 3, 0, none⟩ else none
/-- Are all these addresses there? -/
def hasB (R : Nat → List Int) (kind addr count : Int) : Bool := decide (0 ≤ addr) && decide (addr ≤ ((rowL R kind).length : Int) - count)
/-- vs over what was there, from at_ on. -/
def over (l : List Int) (at_ : Nat) (vs : List Int) : List Int := l.take at_ ++ vs ++ l.drop (at_ + vs.length)
theorem over_length (l : List Int) (at_ : Nat) (vs : List Int) (h : at_ + vs.length ≤ l.length) : (over l at_ vs).length = l.length := by
  simp [over]; omega
theorem over_nil (l : List Int) (at_ : Nat) : over l at_ [] = l := by simp [over]

theorem rowL_kind (R : Nat → List Int) (k : Nat) (hk : k < 4) : rowL R ((k : Int) + 1) = R k := by
  unfold rowL
  match k, hk with
  | 0, _ => rfl
  | 1, _ => rfl
  | 2, _ => rfl
  | 3, _ => rfl
theorem rowA_kind (b : Nat → Nat) (k : Nat) (hk : k < 4) : rowA b ((k : Int) + 1) = some ⟨b k, 0, none⟩ := by
  unfold rowA
  match k, hk with
  | 0, _ => rfl
  | 1, _ => rfl
  | 2, _ => rfl
  | 3, _ => rfl
theorem kind_or (kind : Int) : (∃ k : Nat, k < 4 ∧ kind = (k : Int) + 1) ∨ (kind < 1 ∨ 4 < kind) := by
  by_cases h : kind < 1 ∨ 4 < kind
  · exact Or.inr h
  · exact Or.inl ⟨(kind - 1).toNat, by omega, by omega⟩
theorem rowL_no (R : Nat → List Int) (kind : Int) (h : kind < 1 ∨ 4 < kind) : rowL R kind = [] := by
  unfold rowL
  rw [if_neg (by omega), if_neg (by omega), if_neg (by omega), if_neg (by omega)]
theorem rowA_no (b : Nat → Nat) (kind : Int) (h : kind < 1 ∨ 4 < kind) : rowA b kind = none := by
  unfold rowA
  rw [if_neg (by omega), if_neg (by omega), if_neg (by omega), if_neg (by omega)]
theorem SlA.rd {tS : TypeId} {lo hi : Nat} {w : World} {g : Nat} {b : Nat → Nat} {R : Nat → List Int} (h : SlA tS lo hi w g b R) (kind : Int) : Rd w (rowA b kind) (rowL R kind).length (iv (rowL R kind)) := by
  rcases kind_or kind with ⟨k, hk, rfl⟩ | hn
  · rw [rowL_kind R k hk, rowA_kind b k hk]
    have := (h.row k hk).rd
    rwa [iv_length] at this
  · rw [rowL_no R kind hn, rowA_no b kind hn]
    exact Rd.nil _ _

/-- What a request reads: kind, address, count. -/
def rdS (f a c : Int) : Int × Int × Int := if f = 1 ∨ f = 2 ∨ f = 3 ∨ f = 4 then (f, a, c) else if f = 23 then (3, a, c) else (0, 0, 0)
/-- What a request writes. -/
def wrS (f a n t : Int) : Int × Int × Int := if f = 5 ∨ f = 15 then (1, a, n) else if f = 6 ∨ f = 16 then (3, a, n) else if f = 22 then (3, a, 1) else if f = 23 then (3, t, n) else (0, 0, 0)
/-- May it be done? -/
def goesB (R : Nat → List Int) (f a c n t : Int) : Bool := hasB R (rdS f a c).1 (rdS f a c).2.1 (rdS f a c).2.2 && hasB R (wrS f a n t).1 (wrS f a n t).2.1 (wrS f a n t).2.2
/-- Bit by bit: word where an has 1, o where it has 0. -/
def maskI (x an o : Int) : Int := ((((x.toNat &&& an.toNat) ||| (o.toNat &&& (65535 - an.toNat)) : Nat)) : Int)
/-- What is written. -/
def newV (R : Nat → List Int) (f a : Int) (vs : List Int) (an o : Int) : List Int := if f = 22 then [maskI ((rowL R 3)[a.toNat]?.getD 0) an o] else vs
/-- The rows, once it is written. -/
def nextR (R : Nat → List Int) (f a : Int) (vs : List Int) (t an o : Int) : Nat → List Int :=
  if f = 5 ∨ f = 15 then upd R 0 (over (R 0) a.toNat vs) else if f = 6 ∨ f = 16 ∨ f = 22 then upd R 2 (over (R 2) a.toNat (newV R f a vs an o)) else if f = 23 then upd R 2 (over (R 2) t.toNat vs) else R
/-- What a request that reads is answered. -/
def valsL (R : Nat → List Int) (f a c : Int) : List Int := ((rowL R (rdS f a c).1).drop (rdS f a c).2.1.toNat).take (rdS f a c).2.2.toNat

/-- The slice lies in memory that is new since w. -/
def NewA (w : World) (C : Option Addr) : Prop := ∀ b o, C = some ⟨b, o, none⟩ → w.heap.size ≤ b
theorem NewA.nil (w : World) : NewA w none := fun _ _ h => by cases h
theorem NewA.old {w w' : World} {C : Option Addr} (h : NewA w' C) (hs : w.heap.size ≤ w'.heap.size) : NewA w C := fun b o e => Nat.le_trans hs (h b o e)
/-- Rows of at most 65536 words. -/
def wellR (R : Nat → List Int) : Prop := ∀ k, k < 4 → (R k).length ≤ 65536 ∧ ∀ x ∈ R k, 0 ≤ x ∧ x ≤ 65535
theorem wellR.len {R : Nat → List Int} (h : wellR R) (kind : Int) : (rowL R kind).length ≤ 65536 := by
  rcases kind_or kind with ⟨k, hk, rfl⟩ | hn
  · rw [rowL_kind R k hk]; exact (h k hk).1
  · rw [rowL_no R kind hn]; simp

end Go.Proofs.Ytohiblldhdglgaa
