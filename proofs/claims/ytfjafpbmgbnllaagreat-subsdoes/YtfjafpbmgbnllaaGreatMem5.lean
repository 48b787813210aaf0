/-
  What is proved here: small facts on memory for objects that write their own blocks (all but some blocks is as it was; where an append lays its row; rows of rows of bytes). No condition of its own; nothing of the program is named. ALSO: as Mem5, for rows whose elements are of s cells (structs). No condition of its own; nothing of the program is named.
-/
import Derived.Test.YtfjafpbmgbnllaaGreatBase
namespace Go.Proofs.YtfjafpbmgbnllaaGreat
set_option linter.unusedVariables false
set_option linter.unusedSimpArgs false
open Go.RowKit

/-- But for the blocks of S all that was there is as it was. -/
structure But (S : Nat → Prop) (w w' : World) : Prop where
  os : w'.os = w.os
  tape : w'.tape = w.tape
  output : w'.output = w.output
  size : w.heap.size ≤ w'.heap.size
  block : ∀ i, i < w.heap.size → ¬ S i → w'.heap[i]? = w.heap[i]?

section
variable {S S' : Nat → Prop} {w w' w'' : World}
theorem But.ofBelow (h : Below w.heap.size w w') (S : Nat → Prop) : But S w w' := ⟨h.os, h.tape, h.output, h.size, fun i hi _ => h.block i hi⟩
theorem But.refl (S : Nat → Prop) (w : World) : But S w w := But.ofBelow (Below.refl _ _) S
theorem But.trans (h : But S w w') (k : But S' w' w'') (hs : ∀ i, i < w.heap.size → S' i → S i) : But S w w'' :=
  ⟨k.os.trans h.os, k.tape.trans h.tape, k.output.trans h.output, Nat.le_trans h.size k.size, fun i hi ho => (k.block i (Nat.lt_of_lt_of_le hi h.size) (fun e => ho (hs i hi e))).trans (h.block i hi ho)⟩
theorem But.wide (h : But S w w') (hs : ∀ i, S i → S' i) : But S' w w' := ⟨h.os, h.tape, h.output, h.size, fun i hi ho => h.block i hi (fun e => ho (hs i e))⟩
theorem But.on (h : But S w w') (k : Below w'.heap.size w' w'') : But S w w'' := h.trans (But.ofBelow k S) (fun _ _ e => e)
theorem But.after (h : Below w.heap.size w w') (k : But S w' w'') : But S w w'' := (But.ofBelow h S).trans k (fun _ _ e => e)
theorem But.setCell {g i : Nat} (w : World) (v : Value) (hg : S g) : But S w (w.setCell ⟨g, i, none⟩ v) :=
  ⟨rfl, rfl, rfl, by simp [World.setCell], fun k _ ho => Below.heap_setCell _ _ _ _ (by intro e; exact ho (e ▸ hg))⟩
theorem But.setCell' {g i : Nat} (h : But S w w') (v : Value) (hg : S g) : But S w (w'.setCell ⟨g, i, none⟩ v) := h.trans (But.setCell w' v hg) (fun _ _ e => e)
theorem But.grown {row : Option Nat} (h : w.grownBy w' row) (hs : ∀ k, row = some k → S k) : But S w w' :=
  ⟨h.os, h.tape, h.output, h.size, fun i hi ho => h.block i hi (fun e => ho (hs i e.symm))⟩
theorem But.below {B : Nat} {v : World} (h : Below B v w) (k : But S w w') (hB : ∀ i, S i → B ≤ i) (hw : B ≤ w.heap.size) : Below B v w' :=
  ⟨k.os.trans h.os, k.tape.trans h.tape, k.output.trans h.output, Nat.le_trans h.size k.size, fun i hi => (k.block i (by omega) (fun e => by have := hB i e; omega)).trans (h.block i hi)⟩
theorem Blk.but {g : Nat} {t : TypeId} {cs : List Value} (h : Blk w g t cs) (k : But S w w') (hg : ¬ S g) : Blk w' g t cs := (k.block g h.lt hg).trans h
/-- The slice's block is none of S. -/
def Off (S : Nat → Prop) (A : Option Addr) : Prop := ∀ b o, A = some ⟨b, o, none⟩ → ¬ S b
theorem Off.none_ (S : Nat → Prop) : Off S none := fun _ _ e => by cases e
theorem Off.mono (h : ∀ i, S' i → S i) {A : Option Addr} (k : Off S A) : Off S' A := fun b o e hs => k b o e (h b hs)
theorem Rd.but {A : Option Addr} {n : Nat} {vs : List Value} (h : Rd w A n vs) (k : But S w w') (hg : Off S A) : Rd w' A n vs :=
  ⟨h.1, fun hn => by
    obtain ⟨b, o, e, hl, hc⟩ := h.2 hn
    exact ⟨b, o, e, Nat.lt_of_lt_of_le hl k.size, fun i v hv => (World.cell?_of_block (w := w) (k.block b hl (hg b o e))).trans (hc i v hv)⟩⟩
theorem own_but {base : Nat} {e : TypeId} {A : Option Addr} {n c : Nat} {xs : List Value} (h : w.ownsRow base e 1 (.slice A n c) n xs) (k : But S w w') (hg : Off S A) : w'.ownsRow base e 1 (.slice A n c) n xs := by
  refine ⟨h.1, ?_⟩
  rcases h.2 with h2 | ⟨g, cap, cur, hv, hb, hh, r⟩
  · exact .inl h2
  · have hA : A = some ⟨g, 0, none⟩ := by injection hv
    exact .inr ⟨g, cap, cur, hv, hb, (k.block g (Blk.lt (t := e) (cs := cur.toList) (by simpa [Blk, arr] using hh)) (hg g 0 hA)).trans hh, r⟩
end

/-- The slice lies in memory that is new since w. -/
def NewAt (w : World) (C : Option Addr) : Prop := ∀ b o, C = some ⟨b, o, none⟩ → w.heap.size ≤ b
theorem NewAt.nil (w : World) : NewAt w none := fun _ _ h => by cases h
theorem NewAt.old {w w' : World} {C : Option Addr} (h : NewAt w' C) (hs : w.heap.size ≤ w'.heap.size) : NewAt w C := fun b o e => Nat.le_trans hs (h b o e)
theorem own_newAt {w w' : World} {e : TypeId} {A : Option Addr} {n c : Nat} {xs : List Value} (h : w'.ownsRow w.heap.size e 1 (.slice A n c) n xs) : NewAt w A := by
  intro b o eA
  rcases h.2 with ⟨hv, _⟩ | ⟨g, cap, cur, hv, hg, _⟩
  · injection hv with hA _ _
    rw [eA] at hA
    cases hA
  · injection hv with hA _ _
    rw [eA] at hA
    injection hA with hA
    injection hA with h1 _ _
    omega
theorem own_baseN {w : World} {base base' : Nat} {e : TypeId} {A : Option Addr} {n c : Nat} {xs : List Value} (h : w.ownsRow base e 1 (.slice A n c) n xs) (hb : ∀ b o, A = some ⟨b, o, none⟩ → base' ≤ b) : w.ownsRow base' e 1 (.slice A n c) n xs := by
  refine ⟨h.1, ?_⟩
  rcases h.2 with h2 | ⟨g, cap, cur, hv, hg, r⟩
  · exact .inl h2
  · exact .inr ⟨g, cap, cur, hv, hb g 0 (by injection hv), r⟩
theorem own_lt {w : World} {base : Nat} {e : TypeId} {A : Option Addr} {n c : Nat} {xs : List Value} (h : w.ownsRow base e 1 (.slice A n c) n xs) (b o : Nat) (eA : A = some ⟨b, o, none⟩) : b < w.heap.size := by
  rcases h.2 with ⟨hv, _⟩ | ⟨g, cap, cur, hv, hg, hh, _⟩
  · injection hv with hA _ _
    rw [eA] at hA
    cases hA
  · injection hv with hA _ _
    rw [eA] at hA
    injection hA with hA
    injection hA with h1 _ _
    have := Blk.lt (t := e) (cs := cur.toList) (w := w) (g := g) (by simpa [Blk, arr] using hh)
    omega

/-- Where an append lays its row: where it was, or in new memory. -/
theorem app_where {P : Program} {w : World} (t ty e : TypeId) (z : Value) (bytes : Nat) (ht : P.underlying t = some (.slice e)) (hinfo : (P.info? e).map (fun i => (i.zero, i.size, i.bytes)) = some (some z, 1, bytes)) (hz1 : z.cells = #[z])
    (base : Nat) (A : Option Addr) (n c : Nat) (xs : List Value) (hown : w.ownsRow base e 1 (.slice A n c) n xs) (B : Option Addr) (m d : Nat) (ys : List Value) (hr : Rd w B m ys) (h1 : ∀ u ∈ ys, u.oneCell' = true)
    (h63 : n + m ≤ maxLen) (hbytes : (n + m) * bytes ≤ 140737488355328) {A' : Option Addr} {c' N : Nat} {w' : World} (hrun : (Builtin.append_ #[t, t] ty #[.slice A n c, .slice B m d]).run P w = .ok (.slice A' N c') w') : A' = A ∨ NewAt w A' := by
  obtain ⟨i, hi, hzz⟩ := Option.map_eq_some_iff.1 hinfo
  simp only [Prod.mk.injEq] at hzz
  obtain ⟨hz, hs, hb⟩ := hzz
  rcases hown.2 with ⟨hv, h0⟩ | ⟨g, cap, cur, hv, hg, hh, hc, hm, hsz, htk⟩
  · cases hv
    right
    have hx : xs = [] := List.eq_nil_of_length_eq_zero (by simpa using hown.1)
    subst hx
    obtain ⟨A2, c2, w2, hrun2, o2, _, _⟩ := run_app (P := P) t ty e z bytes ht hinfo hz1 w.heap.size none 0 0 [] (World.ownsRow_nil _ _ _ _) B m d ys hr h1 h63 hbytes (Nat.le_refl _)
    rw [hrun] at hrun2
    injection hrun2 with hv _
    injection hv with hA _ _
    subst hA
    exact own_newAt o2
  · cases hv
    rcases B with _ | ad
    · left
      obtain ⟨rfl, rfl⟩ := hr.none_
      have : (Builtin.append_ #[t, t] ty #[.slice (some ⟨g, 0, none⟩) n c, .slice none 0 d]).run P w = .ok (.slice (some ⟨g, 0, none⟩) n c) w := by
        simp [Builtin.append_, run_underlying ht, sizeOf, typeInfo, hi, Builtin.lenOf, Builtin.firstCells, hc, storeCells]
      rw [hrun] at this
      injection this with hv _
      injection hv
    · by_cases hroom : n + m ≤ c
      · left
        have hl : ys.length = m * i.size := by rw [hs, Nat.mul_one]; exact hr.1
        have hfit : n * i.size + ys.length ≤ cur.size := by rw [hs, hr.1, hsz]; omega
        have := run_append_room (P := P) w t ty e i ht hi g n c cur hh ad m d ys hl hr.adds h1 hroom hfit
        rw [hrun] at this
        injection this with hv _
        injection hv
      · right
        have hl : ys.length = m * i.size := by rw [hs, Nat.mul_one]; exact hr.1
        have hlx : xs.length = n * i.size := by rw [hs]; exact hown.1
        have hsmall : n + m ≤ 9223372036854775807 := by simp only [maxLen] at h63; omega
        have := run_append_grow (P := P) w t ty e i z ht hi hz ⟨g, 0, none⟩ n c xs hlx (hown.cells (g := g) rfl) ad m d ys hl hr.adds (by omega) (by omega) (growslice_fits (by omega) (by rw [hb]; exact hbytes))
        rw [hrun] at this
        injection this with hv _
        injection hv with hA _ _
        subst hA
        intro b o eA
        injection eA with eA
        injection eA with e1 _ _
        exact Nat.le_of_eq e1

/-- append, with what it leaves alone: as one operation of a drawn region. -/
theorem op_app2 {P : Program} {w : World} {o : Oper} {a : Act} {K : Act → World → Prop} {Q : Exit → Act → World → Prop} (s x : Operand) (t : TypeId)
    (ho : o.op = .call { callee := .builtin .append, args := #[s, x], argTypes := #[t, t] })
    (e : TypeId) (z : Value) (bytes : Nat) (ht : P.underlying t = some (.slice e)) (hinfo : (P.info? e).map (fun i => (i.zero, i.size, i.bytes)) = some (some z, 1, bytes)) (hz1 : z.cells = #[z])
    (base : Nat) (A : Option Addr) (n c : Nat) (xs : List Value) (hs : a.eval s = .slice A n c) (hown : w.ownsRow base e 1 (.slice A n c) n xs)
    (B : Option Addr) (m d : Nat) (ys : List Value) (hx : a.eval x = .slice B m d) (hr : Rd w B m ys) (h1 : ∀ u ∈ ys, u.oneCell' = true)
    (h63 : n + m ≤ maxLen) (hbytes : (n + m) * bytes ≤ 140737488355328) (hbase : base ≤ w.heap.size)
    (h : ∀ A' c' w', w'.ownsRow base e 1 (.slice A' (n + m) c') (n + m) (xs ++ ys) → But (fun i => ∃ o, A = some ⟨i, o, none⟩) w w' → (A' = A ∨ NewAt w A') → K (a.put o.dst (.slice A' (n + m) c')) w') : Oper.wp P o a w K Q := by
  obtain ⟨A', c', w', hrun, h2, h3, h4⟩ := run_app (P := P) t o.type e z bytes ht hinfo hz1 base A n c xs hown B m d ys hr h1 h63 hbytes hbase
  have hw := app_where (P := P) t o.type e z bytes ht hinfo hz1 base A n c xs hown B m d ys hr h1 h63 hbytes hrun
  have hbut : But (fun i => ∃ o, A = some ⟨i, o, none⟩) w w' := But.grown h3 (fun k hk => by
    rcases hown.2 with ⟨hv, _⟩ | ⟨g, cap, cur, hv, _⟩
    · cases hv; cases hk
    · cases hv
      injection hk with hk
      subst hk
      exact ⟨0, rfl⟩)
  unfold Oper.wp execOp
  simp only [ho, resolve, invoke, builtin, Sem.run_bind, Sem.run_pure, Result.andThen_ok, List.map_toArray, List.map_cons, List.map_nil, hs, hx, hrun]
  exact h A' c' w' h2 hbut hw
theorem wpList_app2 {P : Program} {w : World} {ops : Array Oper} {rest : List Oper} {o : Oper} {a : Act} {Q : Exit → Act → World → Prop} (hgd : o.guard = none) (s x : Operand) (t : TypeId)
    (ho : o.op = .call { callee := .builtin .append, args := #[s, x], argTypes := #[t, t] })
    (e : TypeId) (z : Value) (bytes : Nat) (ht : P.underlying t = some (.slice e)) (hinfo : (P.info? e).map (fun i => (i.zero, i.size, i.bytes)) = some (some z, 1, bytes)) (hz1 : z.cells = #[z])
    (base : Nat) (A : Option Addr) (n c : Nat) (xs : List Value) (hs : a.eval s = .slice A n c) (hown : w.ownsRow base e 1 (.slice A n c) n xs)
    (B : Option Addr) (m d : Nat) (ys : List Value) (hx : a.eval x = .slice B m d) (hr : Rd w B m ys) (h1 : ∀ u ∈ ys, u.oneCell' = true)
    (h63 : n + m ≤ maxLen) (hbytes : (n + m) * bytes ≤ 140737488355328) (hbase : base ≤ w.heap.size)
    (h : ∀ A' c' w', w'.ownsRow base e 1 (.slice A' (n + m) c') (n + m) (xs ++ ys) → But (fun i => ∃ o, A = some ⟨i, o, none⟩) w w' → (A' = A ∨ NewAt w A') → wpList P ops Q rest (a.put o.dst (.slice A' (n + m) c')) w') : wpList P ops Q (o :: rest) a w :=
  wpList_plain hgd fun K hK => op_app2 s x t ho e z bytes ht hinfo hz1 base A n c xs hs hown B m d ys hx hr h1 h63 hbytes hbase fun A' c' w' a1 a2 a3 => hK _ _ (h A' c' w' a1 a2 a3)

/-! ### Rows of rows of bytes -/
/-- A row: where it lies, its room, its bytes. -/
structure RowE where
  A : Option Addr
  k : Nat
  xs : List UInt8
def RowE.v (r : RowE) : Value := .slice r.A r.xs.length r.k
def RowE.is (w : World) (r : RowE) : Prop := Rd w r.A r.xs.length (bv r.xs)
theorem rv_one (rs : List RowE) : ∀ u ∈ rs.map RowE.v, u.oneCell' = true := by
  intro u hu
  simp only [List.mem_map] at hu
  obtain ⟨r, _, rfl⟩ := hu
  rfl
/-- Rows lie in memory. -/
def RRd (w : World) (O : Option Addr) (n : Nat) (rs : List RowE) : Prop := Rd w O n (rs.map RowE.v) ∧ ∀ r ∈ rs, r.is w
theorem RRd.nil (w : World) (O : Option Addr) : RRd w O 0 [] := ⟨Rd.nil _ _, by simp⟩
theorem RRd.len {w : World} {O : Option Addr} {n : Nat} {rs : List RowE} (h : RRd w O n rs) : rs.length = n := by simpa using h.1.1
theorem RRd.keep {w w' : World} {O : Option Addr} {n : Nat} {rs : List RowE} (h : RRd w O n rs) (b : Below w.heap.size w w') : RRd w' O n rs := ⟨h.1.keep b, fun r hr => (h.2 r hr).keep b⟩
theorem RRd.but {S : Nat → Prop} {w w' : World} {O : Option Addr} {n : Nat} {rs : List RowE} (h : RRd w O n rs) (b : But S w w') (ho : Off S O) (hs : ∀ r ∈ rs, Off S r.A) : RRd w' O n rs := ⟨h.1.but b ho, fun r hr => Rd.but (h.2 r hr) b (hs r hr)⟩
theorem RRd.one {w : World} (t : TypeId) (r : RowE) (h : r.is w) : RRd (w.alloc (.cells #[r.v] t)) (some ⟨w.heap.size, 0, none⟩) 1 [r] :=
  ⟨rd_one w t r.v, fun x hx => by simp at hx; subst hx; exact Rd.keep h ((Below.refl _ _).alloc (Nat.le_refl _) _)⟩
theorem RRd.at_ {w : World} {O : Option Addr} {n : Nat} {rs : List RowE} (h : RRd w O n rs) {i : Nat} (hi : i < n) : ∃ b o r, O = some ⟨b, o, none⟩ ∧ b < w.heap.size ∧ rs[i]? = some r ∧ w.cell? ⟨b, o + i, none⟩ = some r.v ∧ r.is w := by
  obtain ⟨b, o, e, hb, hc⟩ := h.1.at_ hi
  have hl := h.len
  have hg : rs[i]? = some rs[i] := List.getElem?_eq_getElem (by omega)
  exact ⟨b, o, rs[i], e, hb, hg, hc i _ (by rw [List.getElem?_map, hg]; rfl), h.2 _ (List.getElem_mem _)⟩

end Go.Proofs.YtfjafpbmgbnllaaGreat

namespace Go.Proofs.YtfjafpbmgbnllaaGreat
set_option linter.unusedVariables false
set_option linter.unusedSimpArgs false
open Go.RowKit

section
variable {w w' : World} {base s : Nat} {e : TypeId} {A : Option Addr} {n c : Nat} {xs : List Value}
theorem ownS_rd (h : w.ownsRow base e s (.slice A n c) n xs) : Rd w A (n * s) xs := by
  refine ⟨h.1, fun hn => ?_⟩
  rcases h.2 with ⟨_, h0⟩ | ⟨g, cap, cur, hv, hg, hh, hc, hm, hs, ht⟩
  · subst h0; simp at hn
  · injection hv with hA _ _
    subst hA
    refine ⟨g, 0, rfl, Blk.lt (t := e) (cs := cur.toList) (by simpa [Blk, arr] using hh), fun i v hv => ?_⟩
    have := h.cells (g := g) rfl i v hv
    rwa [add_at] at this
theorem ownS_cap (h : w.ownsRow base e s (.slice A n c) n xs) : n ≤ c := by
  rcases h.2 with ⟨hv, h0⟩ | ⟨g, cap, cur, hv, hg, hh, hc, r⟩
  · omega
  · injection hv with _ _ hk
    omega
theorem ownS_but {S : Nat → Prop} (h : w.ownsRow base e s (.slice A n c) n xs) (k : But S w w') (hg : Off S A) : w'.ownsRow base e s (.slice A n c) n xs := by
  refine ⟨h.1, ?_⟩
  rcases h.2 with h2 | ⟨g, cap, cur, hv, hb, hh, r⟩
  · exact .inl h2
  · have hA : A = some ⟨g, 0, none⟩ := by injection hv
    exact .inr ⟨g, cap, cur, hv, hb, (k.block g (Blk.lt (t := e) (cs := cur.toList) (by simpa [Blk, arr] using hh)) (hg g 0 hA)).trans hh, r⟩
theorem ownS_keep (h : w.ownsRow base e s (.slice A n c) n xs) (hb : Below w.heap.size w w') : w'.ownsRow base e s (.slice A n c) n xs := ownS_but h (But.ofBelow hb (fun _ => False)) (fun _ _ _ h => h)
theorem ownS_new (h : w.ownsRow base e s (.slice A n c) n xs) (b o : Nat) (eA : A = some ⟨b, o, none⟩) : base ≤ b := by
  rcases h.2 with ⟨hv, _⟩ | ⟨g, cap, cur, hv, hg, _⟩
  · injection hv with hA _ _
    rw [eA] at hA
    cases hA
  · injection hv with hA _ _
    rw [eA] at hA
    injection hA with hA
    injection hA with h1 _ _
    omega
theorem ownS_lt (h : w.ownsRow base e s (.slice A n c) n xs) (b o : Nat) (eA : A = some ⟨b, o, none⟩) : b < w.heap.size := by
  rcases h.2 with ⟨hv, _⟩ | ⟨g, cap, cur, hv, hg, hh, _⟩
  · injection hv with hA _ _
    rw [eA] at hA
    cases hA
  · injection hv with hA _ _
    rw [eA] at hA
    injection hA with hA
    injection hA with h1 _ _
    have := Blk.lt (t := e) (cs := cur.toList) (w := w) (g := g) (by simpa [Blk, arr] using hh)
    omega
end

/-- append onto a row of the call's own, its elements of s cells, from whatever slice reads; where the row lies then, and what is left alone. -/
theorem run_appS {P : Program} {w : World} (t ty e : TypeId) (z : Value) (s bytes : Nat) (ht : P.underlying t = some (.slice e)) (hinfo : (P.info? e).map (fun i => (i.zero, i.size, i.bytes)) = some (some z, s, bytes)) (hz1 : z.cells.size = s) (hs0 : 0 < s)
    (base : Nat) (A : Option Addr) (n c : Nat) (xs : List Value) (hown : w.ownsRow base e s (.slice A n c) n xs) (B : Option Addr) (m d : Nat) (ys : List Value) (hr : Rd w B (m * s) ys) (h1 : ∀ u ∈ ys, u.oneCell' = true)
    (h63 : n + m ≤ maxLen) (hbytes : (n + m) * bytes ≤ 140737488355328) (hbase : base ≤ w.heap.size) :
    ∃ A' c' w', (Builtin.append_ #[t, t] ty #[.slice A n c, .slice B m d]).run P w = .ok (.slice A' (n + m) c') w' ∧ w'.ownsRow base e s (.slice A' (n + m) c') (n + m) (xs ++ ys) ∧ But (fun i => ∃ o, A = some ⟨i, o, none⟩) w w' ∧ (A' = A ∨ NewAt w A') := by
  obtain ⟨i, hi, hzz⟩ := Option.map_eq_some_iff.1 hinfo
  simp only [Prod.mk.injEq] at hzz
  obtain ⟨hz, hs, hb⟩ := hzz
  have hbut : ∀ w', w.grownBy w' (Value.slice A n c).ownBlock → But (fun i => ∃ o, A = some ⟨i, o, none⟩) w w' := fun w' h3 => But.grown h3 (fun k hk => by
    rcases hown.2 with ⟨hv, _⟩ | ⟨g, cap, cur, hv, _⟩
    · cases hv; cases hk
    · cases hv
      injection hk with hk
      subst hk
      exact ⟨0, rfl⟩)
  rcases B with _ | ad
  · obtain ⟨h0, rfl⟩ := hr.none_
    obtain rfl : m = 0 := by
      rcases Nat.eq_zero_or_pos m with h | h
      · exact h
      · have := Nat.mul_pos h hs0
        omega
    refine ⟨A, c, w, ?_, by simpa using hown, But.refl _ _, Or.inl rfl⟩
    rcases hown.2 with ⟨hv, h0⟩ | ⟨g, cap, cur, hv, hg, hh, hc, hm, hsz, htk⟩
    · cases hv
      simp [Builtin.append_, run_underlying ht, sizeOf, typeInfo, hi, Builtin.lenOf, Builtin.firstCells]
    · cases hv
      simp [Builtin.append_, run_underlying ht, sizeOf, typeInfo, hi, Builtin.lenOf, Builtin.firstCells, hc, storeCells]
  · have hl : ys.length = m * s := hr.1
    obtain ⟨v', w', hrun, h2, h3, h4⟩ := run_append_own (P := P) w base t ty e i z s bytes ht hi hz hs hb hz1 hs0 (.slice A n c) n xs hown ad m d ys hl hr.adds h1 h63 hbytes hbase
    obtain ⟨A', c', rfl⟩ : ∃ A' c', v' = .slice A' (n + m) c' := by
      rcases h2.2 with ⟨hv, h0⟩ | ⟨g, cap, cur, hv, _⟩
      · exact ⟨none, 0, by rw [hv, h0]⟩
      · exact ⟨_, _, hv⟩
    refine ⟨A', c', w', hrun, h2, hbut w' h3, ?_⟩
    rcases hown.2 with ⟨hv, h0⟩ | ⟨g, cap, cur, hv, hg, hh, hc, hm, hsz, htk⟩
    · cases hv
      right
      have hx : xs = [] := List.eq_nil_of_length_eq_zero (by simpa using hown.1)
      subst hx
      obtain ⟨v2, w2, hrun2, o2, _, _⟩ := run_append_own (P := P) w w.heap.size t ty e i z s bytes ht hi hz hs hb hz1 hs0 (.slice none 0 0) 0 [] (World.ownsRow_nil _ _ _ _) ad m d ys hl hr.adds h1 h63 hbytes (Nat.le_refl _)
      rw [hrun] at hrun2
      injection hrun2 with hv _
      subst hv
      exact fun b o eA => ownS_new o2 b o eA
    · cases hv
      by_cases hroom : n + m ≤ c
      · left
        have hfit : n * i.size + ys.length ≤ cur.size := by rw [hs, hl, hsz, ← Nat.add_mul]; exact Nat.mul_le_mul_right _ hroom
        have := run_append_room (P := P) w t ty e i ht hi g n c cur hh ad m d ys (by rw [hs]; exact hl) hr.adds h1 hroom hfit
        rw [hrun] at this
        injection this with hv _
        injection hv
      · right
        have hsmall : n + m ≤ 9223372036854775807 := by simp only [maxLen] at h63; omega
        have := run_append_grow (P := P) w t ty e i z ht hi hz ⟨g, 0, none⟩ n c xs (by rw [hs]; exact hown.1) (hown.cells (g := g) rfl) ad m d ys (by rw [hs]; exact hl) hr.adds (by omega) (by omega) (growslice_fits (by omega) (by rw [hb]; exact hbytes))
        rw [hrun] at this
        injection this with hv _
        injection hv with hA _ _
        subst hA
        intro b o eA
        injection eA with eA
        injection eA with e1 _ _
        exact Nat.le_of_eq e1

theorem op_appS {P : Program} {w : World} {o : Oper} {a : Act} {K : Act → World → Prop} {Q : Exit → Act → World → Prop} (sl x : Operand) (t : TypeId)
    (ho : o.op = .call { callee := .builtin .append, args := #[sl, x], argTypes := #[t, t] })
    (e : TypeId) (z : Value) (s bytes : Nat) (ht : P.underlying t = some (.slice e)) (hinfo : (P.info? e).map (fun i => (i.zero, i.size, i.bytes)) = some (some z, s, bytes)) (hz1 : z.cells.size = s) (hs0 : 0 < s)
    (base : Nat) (A : Option Addr) (n c : Nat) (xs : List Value) (hs : a.eval sl = .slice A n c) (hown : w.ownsRow base e s (.slice A n c) n xs)
    (B : Option Addr) (m d : Nat) (ys : List Value) (hx : a.eval x = .slice B m d) (hr : Rd w B (m * s) ys) (h1 : ∀ u ∈ ys, u.oneCell' = true)
    (h63 : n + m ≤ maxLen) (hbytes : (n + m) * bytes ≤ 140737488355328) (hbase : base ≤ w.heap.size)
    (h : ∀ A' c' w', w'.ownsRow base e s (.slice A' (n + m) c') (n + m) (xs ++ ys) → But (fun i => ∃ o, A = some ⟨i, o, none⟩) w w' → (A' = A ∨ NewAt w A') → K (a.put o.dst (.slice A' (n + m) c')) w') : Oper.wp P o a w K Q := by
  obtain ⟨A', c', w', hrun, h2, h3, h4⟩ := run_appS (P := P) t o.type e z s bytes ht hinfo hz1 hs0 base A n c xs hown B m d ys hr h1 h63 hbytes hbase
  unfold Oper.wp execOp
  simp only [ho, resolve, invoke, builtin, Sem.run_bind, Sem.run_pure, Result.andThen_ok, List.map_toArray, List.map_cons, List.map_nil, hs, hx, hrun]
  exact h A' c' w' h2 h3 h4
theorem wpList_appS {P : Program} {w : World} {ops : Array Oper} {rest : List Oper} {o : Oper} {a : Act} {Q : Exit → Act → World → Prop} (hgd : o.guard = none) (sl x : Operand) (t : TypeId)
    (ho : o.op = .call { callee := .builtin .append, args := #[sl, x], argTypes := #[t, t] })
    (e : TypeId) (z : Value) (s bytes : Nat) (ht : P.underlying t = some (.slice e)) (hinfo : (P.info? e).map (fun i => (i.zero, i.size, i.bytes)) = some (some z, s, bytes)) (hz1 : z.cells.size = s) (hs0 : 0 < s)
    (base : Nat) (A : Option Addr) (n c : Nat) (xs : List Value) (hs : a.eval sl = .slice A n c) (hown : w.ownsRow base e s (.slice A n c) n xs)
    (B : Option Addr) (m d : Nat) (ys : List Value) (hx : a.eval x = .slice B m d) (hr : Rd w B (m * s) ys) (h1 : ∀ u ∈ ys, u.oneCell' = true)
    (h63 : n + m ≤ maxLen) (hbytes : (n + m) * bytes ≤ 140737488355328) (hbase : base ≤ w.heap.size)
    (h : ∀ A' c' w', w'.ownsRow base e s (.slice A' (n + m) c') (n + m) (xs ++ ys) → But (fun i => ∃ o, A = some ⟨i, o, none⟩) w w' → (A' = A ∨ NewAt w A') → wpList P ops Q rest (a.put o.dst (.slice A' (n + m) c')) w') : wpList P ops Q (o :: rest) a w :=
  wpList_plain hgd fun K hK => op_appS sl x t ho e z s bytes ht hinfo hz1 hs0 base A n c xs hs hown B m d ys hx hr h1 h63 hbytes hbase fun A' c' w' a1 a2 a3 => hK _ _ (h A' c' w' a1 a2 a3)

/-- Rows of bytes are read as they were. -/
def KeepB (w w' : World) : Prop := ∀ (B : Option Addr) (l : Nat) (xs : List UInt8), Rd w B l (bv xs) → Rd w' B l (bv xs)
theorem KeepB.ofBelow {w w' : World} (b : Below w.heap.size w w') : KeepB w w' := fun _ _ _ h => h.keep b
theorem KeepB.trans {w w' w'' : World} (h : KeepB w w') (k : KeepB w' w'') : KeepB w w'' := fun B l xs hr => k B l xs (h B l xs hr)
theorem Rd.u8set {w : World} {A : Option Addr} {n : Nat} {xs : List UInt8} (h : Rd w A n (bv xs)) {g i : Nat} {v0 : Value} (h0 : w.cell? ⟨g, i, none⟩ = some v0) (hn : ∀ x, v0 ≠ .int .u8 x) (v : Value) : Rd (w.setCell ⟨g, i, none⟩ v) A n (bv xs) :=
  ⟨h.1, fun h1 => by
    obtain ⟨b, o, e, hl, hc⟩ := h.2 h1
    refine ⟨b, o, e, by simpa using hl, fun j u hu => ?_⟩
    have hcj := hc j u hu
    have hne : (⟨b, o + j, none⟩ : Addr) ≠ ⟨g, i, none⟩ := by
      intro e1
      rw [e1, h0] at hcj
      injection hcj with hcj
      rw [bv, List.getElem?_map] at hu
      cases hx : xs[j]? with
      | none => rw [hx] at hu; cases hu
      | some x =>
        rw [hx] at hu
        injection hu with hu
        exact hn _ (hcj.trans hu.symm)
    rw [World.cell?_setCell_other _ _ _ _ hne.symm]
    exact hcj⟩

end Go.Proofs.YtfjafpbmgbnllaaGreat
