/-
  What is proved here: as Mem5, for rows whose elements are of s cells (structs). No condition of its own; nothing of the program is named.
-/
import Derived.Test.YtnialjikpoembaaMem5
namespace Go.Proofs.Ytnialjikpoembaa
set_option linter.unusedVariables false
set_option linter.unusedSimpArgs false
open Go.RowKit

section
variable {w w' : World} {base s : Nat} {e : TypeId} {A : Option Addr} {n c : Nat} {xs : List Value}
theorem ownS_rd (h : w.ownsRow base e s (.slice A n c) n xs) : Rd w A (n * s) xs := by
  refine ⟨h.1, fun hn => ?_⟩
  rcases h.2 with ⟨_, h0⟩ | ⟨g, cap, cur, hv, hg, hh, hc, hm, hs, ht⟩
  · subst h0; simp at hn
  · injection hv with hA _ _
    subst hA
    refine ⟨g, 0, rfl, Blk.lt (t := e) (cs := cur.toList) (by simpa [Blk, arr] using hh), fun i v hv => ?_⟩
    have := h.cells (g := g) rfl i v hv
    rwa [add_at] at this
theorem ownS_cap (h : w.ownsRow base e s (.slice A n c) n xs) : n ≤ c := by
  rcases h.2 with ⟨hv, h0⟩ | ⟨g, cap, cur, hv, hg, hh, hc, r⟩
  · omega
  · injection hv with _ _ hk
    omega
theorem ownS_but {S : Nat → Prop} (h : w.ownsRow base e s (.slice A n c) n xs) (k : But S w w') (hg : Off S A) : w'.ownsRow base e s (.slice A n c) n xs := by
  refine ⟨h.1, ?_⟩
  rcases h.2 with h2 | ⟨g, cap, cur, hv, hb, hh, r⟩
  · exact .inl h2
  · have hA : A = some ⟨g, 0, none⟩ := by injection hv
    exact .inr ⟨g, cap, cur, hv, hb, (k.block g (Blk.lt (t := e) (cs := cur.toList) (by simpa [Blk, arr] using hh)) (hg g 0 hA)).trans hh, r⟩
theorem ownS_keep (h : w.ownsRow base e s (.slice A n c) n xs) (hb : Below w.heap.size w w') : w'.ownsRow base e s (.slice A n c) n xs := ownS_but h (But.ofBelow hb (fun _ => False)) (fun _ _ _ h => h)
theorem ownS_new (h : w.ownsRow base e s (.slice A n c) n xs) (b o : Nat) (eA : A = some ⟨b, o, none⟩) : base ≤ b := by
  rcases h.2 with ⟨hv, _⟩ | ⟨g, cap, cur, hv, hg, _⟩
  · injection hv with hA _ _
    rw [eA] at hA
    cases hA
  · injection hv with hA _ _
    rw [eA] at hA
    injection hA with hA
    injection hA with h1 _ _
    omega
theorem ownS_lt (h : w.ownsRow base e s (.slice A n c) n xs) (b o : Nat) (eA : A = some ⟨b, o, none⟩) : b < w.heap.size := by
  rcases h.2 with ⟨hv, _⟩ | ⟨g, cap, cur, hv, hg, hh, _⟩
  · injection hv with hA _ _
    rw [eA] at hA
    cases hA
  · injection hv with hA _ _
    rw [eA] at hA
    injection hA with hA
    injection hA with h1 _ _
    have := Blk.lt (t := e) (cs := cur.toList) (w := w) (g := g) (by simpa [Blk, arr] using hh)
    omega
end

/-- append onto a row of the call's own, its elements of s cells, from whatever slice reads; where the row lies then, and what is left alone. -/
theorem run_appS {P : Program} {w : World} (t ty e : TypeId) (z : Value) (s bytes : Nat) (ht : P.underlying t = some (.slice e)) (hinfo : (P.info? e).map (fun i => (i.zero, i.size, i.bytes)) = some (some z, s, bytes)) (hz1 : z.cells.size = s) (hs0 : 0 < s)
    (base : Nat) (A : Option Addr) (n c : Nat) (xs : List Value) (hown : w.ownsRow base e s (.slice A n c) n xs) (B : Option Addr) (m d : Nat) (ys : List Value) (hr : Rd w B (m * s) ys) (h1 : ∀ u ∈ ys, u.oneCell' = true)
    (h63 : n + m ≤ maxLen) (hbytes : (n + m) * bytes ≤ 140737488355328) (hbase : base ≤ w.heap.size) :
    ∃ A' c' w', (Builtin.append_ #[t, t] ty #[.slice A n c, .slice B m d]).run P w = .ok (.slice A' (n + m) c') w' ∧ w'.ownsRow base e s (.slice A' (n + m) c') (n + m) (xs ++ ys) ∧ But (fun i => ∃ o, A = some ⟨i, o, none⟩) w w' ∧ (A' = A ∨ NewAt w A') := by
  obtain ⟨i, hi, hzz⟩ := Option.map_eq_some_iff.1 hinfo
  simp only [Prod.mk.injEq] at hzz
  obtain ⟨hz, hs, hb⟩ := hzz
  have hbut : ∀ w', w.grownBy w' (Value.slice A n c).ownBlock → But (fun i => ∃ o, A = some ⟨i, o, none⟩) w w' := fun w' h3 => But.grown h3 (fun k hk => by
    rcases hown.2 with ⟨hv, _⟩ | ⟨g, cap, cur, hv, _⟩
    · cases hv; cases hk
    · cases hv
      injection hk with hk
      subst hk
      exact ⟨0, rfl⟩)
  rcases B with _ | ad
  · obtain ⟨h0, rfl⟩ := hr.none_
    obtain rfl : m = 0 := by
      rcases Nat.eq_zero_or_pos m with h | h
      · exact h
      · have := Nat.mul_pos h hs0
        omega
    refine ⟨A, c, w, ?_, by simpa using hown, But.refl _ _, Or.inl rfl⟩
    rcases hown.2 with ⟨hv, h0⟩ | ⟨g, cap, cur, hv, hg, hh, hc, hm, hsz, htk⟩
    · cases hv
      simp [Builtin.append_, run_underlying ht, sizeOf, typeInfo, hi, Builtin.lenOf, Builtin.firstCells]
    · cases hv
      simp [Builtin.append_, run_underlying ht, sizeOf, typeInfo, hi, Builtin.lenOf, Builtin.firstCells, hc, storeCells]
  · have hl : ys.length = m * s := hr.1
    obtain ⟨v', w', hrun, h2, h3, h4⟩ := run_append_own (P := P) w base t ty e i z s bytes ht hi hz hs hb hz1 hs0 (.slice A n c) n xs hown ad m d ys hl hr.adds h1 h63 hbytes hbase
    obtain ⟨A', c', rfl⟩ : ∃ A' c', v' = .slice A' (n + m) c' := by
      rcases h2.2 with ⟨hv, h0⟩ | ⟨g, cap, cur, hv, _⟩
      · exact ⟨none, 0, by rw [hv, h0]⟩
      · exact ⟨_, _, hv⟩
    refine ⟨A', c', w', hrun, h2, hbut w' h3, ?_⟩
    rcases hown.2 with ⟨hv, h0⟩ | ⟨g, cap, cur, hv, hg, hh, hc, hm, hsz, htk⟩
    · cases hv
      right
      have hx : xs = [] := List.eq_nil_of_length_eq_zero (by simpa using hown.1)
      subst hx
      obtain ⟨v2, w2, hrun2, o2, _, _⟩ := run_append_own (P := P) w w.heap.size t ty e i z s bytes ht hi hz hs hb hz1 hs0 (.slice none 0 0) 0 [] (World.ownsRow_nil _ _ _ _) ad m d ys hl hr.adds h1 h63 hbytes (Nat.le_refl _)
      rw [hrun] at hrun2
      injection hrun2 with hv _
      subst hv
      exact fun b o eA => ownS_new o2 b o eA
    · cases hv
      by_cases hroom : n + m ≤ c
      · left
        have hfit : n * i.size + ys.length ≤ cur.size := by rw [hs, hl, hsz, ← Nat.add_mul]; exact Nat.mul_le_mul_right _ hroom
        have := run_append_room (P := P) w t ty e i ht hi g n c cur hh ad m d ys (by rw [hs]; exact hl) hr.adds h1 hroom hfit
        rw [hrun] at this
        injection this with hv _
        injection hv
      · right
        have hsmall : n + m ≤ 9223372036854775807 := by simp only [maxLen] at h63; omega
        have := run_append_grow (P := P) w t ty e i z ht hi hz ⟨g, 0, none⟩ n c xs (by rw [hs]; exact hown.1) (hown.cells (g := g) rfl) ad m d ys (by rw [hs]; exact hl) hr.adds (by omega) (by omega) (growslice_fits (by omega) (by rw [hb]; exact hbytes))
        rw [hrun] at this
        injection this with hv _
        injection hv with hA _ _
        subst hA
        intro b o eA
        injection eA with eA
        injection eA with e1 _ _
        exact Nat.le_of_eq e1

theorem op_appS {P : Program} {w : World} {o : Oper} {a : Act} {K : Act → World → Prop} {Q : Exit → Act → World → Prop} (sl x : Operand) (t : TypeId)
    (ho : o.op = .call { callee := .builtin .append, args := #[sl, x], argTypes := #[t, t] })
    (e : TypeId) (z : Value) (s bytes : Nat) (ht : P.underlying t = some (.slice e)) (hinfo : (P.info? e).map (fun i => (i.zero, i.size, i.bytes)) = some (some z, s, bytes)) (hz1 : z.cells.size = s) (hs0 : 0 < s)
    (base : Nat) (A : Option Addr) (n c : Nat) (xs : List Value) (hs : a.eval sl = .slice A n c) (hown : w.ownsRow base e s (.slice A n c) n xs)
    (B : Option Addr) (m d : Nat) (ys : List Value) (hx : a.eval x = .slice B m d) (hr : Rd w B (m * s) ys) (h1 : ∀ u ∈ ys, u.oneCell' = true)
    (h63 : n + m ≤ maxLen) (hbytes : (n + m) * bytes ≤ 140737488355328) (hbase : base ≤ w.heap.size)
    (h : ∀ A' c' w', w'.ownsRow base e s (.slice A' (n + m) c') (n + m) (xs ++ ys) → But (fun i => ∃ o, A = some ⟨i, o, none⟩) w w' → (A' = A ∨ NewAt w A') → K (a.put o.dst (.slice A' (n + m) c')) w') : Oper.wp P o a w K Q := by
  obtain ⟨A', c', w', hrun, h2, h3, h4⟩ := run_appS (P := P) t o.type e z s bytes ht hinfo hz1 hs0 base A n c xs hown B m d ys hr h1 h63 hbytes hbase
  unfold Oper.wp execOp
  simp only [ho, resolve, invoke, builtin, Sem.run_bind, Sem.run_pure, Result.andThen_ok, List.map_toArray, List.map_cons, List.map_nil, hs, hx, hrun]
  exact h A' c' w' h2 h3 h4
theorem wpList_appS {P : Program} {w : World} {ops : Array Oper} {rest : List Oper} {o : Oper} {a : Act} {Q : Exit → Act → World → Prop} (hgd : o.guard = none) (sl x : Operand) (t : TypeId)
    (ho : o.op = .call { callee := .builtin .append, args := #[sl, x], argTypes := #[t, t] })
    (e : TypeId) (z : Value) (s bytes : Nat) (ht : P.underlying t = some (.slice e)) (hinfo : (P.info? e).map (fun i => (i.zero, i.size, i.bytes)) = some (some z, s, bytes)) (hz1 : z.cells.size = s) (hs0 : 0 < s)
    (base : Nat) (A : Option Addr) (n c : Nat) (xs : List Value) (hs : a.eval sl = .slice A n c) (hown : w.ownsRow base e s (.slice A n c) n xs)
    (B : Option Addr) (m d : Nat) (ys : List Value) (hx : a.eval x = .slice B m d) (hr : Rd w B (m * s) ys) (h1 : ∀ u ∈ ys, u.oneCell' = true)
    (h63 : n + m ≤ maxLen) (hbytes : (n + m) * bytes ≤ 140737488355328) (hbase : base ≤ w.heap.size)
    (h : ∀ A' c' w', w'.ownsRow base e s (.slice A' (n + m) c') (n + m) (xs ++ ys) → But (fun i => ∃ o, A = some ⟨i, o, none⟩) w w' → (A' = A ∨ NewAt w A') → wpList P ops Q rest (a.put o.dst (.slice A' (n + m) c')) w') : wpList P ops Q (o :: rest) a w :=
  wpList_plain hgd fun K hK => op_appS sl x t ho e z s bytes ht hinfo hz1 hs0 base A n c xs hs hown B m d ys hx hr h1 h63 hbytes hbase fun A' c' w' a1 a2 a3 => hK _ _ (h A' c' w' a1 a2 a3)

end Go.Proofs.Ytnialjikpoembaa
