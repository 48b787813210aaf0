/-
  What is proved here: what master's endRests leaves of the master: a unit is in the map just if it rests. Condition: now is the master's tick.
-/
import Derived.Test.YtnialjikpoembaaMs7
namespace Go.Proofs.Ytnialjikpoembaa
set_option linter.unusedVariables false
set_option linter.unusedSimpArgs false
open Go.RowKit Go.Maps

section
variable {pd : Lit → DataW Unit → Bool} {D : DataW Unit} {kl : Lit} {d : DataW Unit}
theorem mem_key {es : List (Lit × DataW Unit)} (h : es.any (fun p => p.1.sameKey kl) = true) : ∃ x, (kl, x) ∈ es := by
  obtain ⟨p, hp, hs⟩ := List.any_eq_true.1 h
  have := WideAt.sameKey_eq hs
  subst this
  exact ⟨p.2, hp⟩
theorem has_delF (ht : Tidy D) (hk : WideAt.IsKeyLit kl) (hat : ∀ zd, D.atKey kl zd = d) (hh : has D kl = true) : has (Lib.deleteFuncD pd D) kl = !pd kl d := by
  obtain ⟨es, rfl, hap⟩ := ht
  obtain ⟨x, hx⟩ := mem_key (hh : es.any _ = true)
  have hxd : x = d := (WideAt.atKey_mem .nil hk hap hx).symm.trans (hat .nil)
  subst hxd
  show (es.filter fun p => !pd p.1 p.2).any (fun p => p.1.sameKey kl) = _
  cases hp : pd kl x
  · exact List.any_eq_true.2 ⟨(kl, x), List.mem_filter.2 ⟨hx, by simp [hp]⟩, WideAt.sameKey_self hk⟩
  · rw [Bool.not_true, List.any_eq_false]
    intro q hq hs
    obtain ⟨hq1, hq2⟩ := List.mem_filter.1 hq
    have e := WideAt.sameKey_eq hs
    obtain ⟨q1, q2⟩ := q
    simp only at e hq2
    subst e
    have : q2 = x := (WideAt.atKey_mem .nil hk hap hq1).symm.trans (hat .nil)
    subst this
    rw [hp] at hq2
    cases hq2
theorem at_delF (ht : Tidy D) (hk : WideAt.IsKeyLit kl) (hat : ∀ zd, D.atKey kl zd = d) (hh : has D kl = true) (hp : pd kl d = false) (zd : DataW Unit) : (Lib.deleteFuncD pd D).atKey kl zd = d := by
  obtain ⟨es, rfl, hap⟩ := ht
  obtain ⟨x, hx⟩ := mem_key (hh : es.any _ = true)
  have hxd : x = d := (WideAt.atKey_mem .nil hk hap hx).symm.trans (hat .nil)
  subst hxd
  exact WideAt.atKey_mem zd hk (hap.filter _) (List.mem_filter.2 ⟨hx, by simp [hp]⟩)
theorem has_delF_no (hD : IsMap D) (hh : has D kl = false) : has (Lib.deleteFuncD pd D) kl = false := by
  obtain ⟨es, rfl⟩ := hD
  show (es.filter fun p => !pd p.1 p.2).any (fun p => p.1.sameKey kl) = false
  rw [List.any_eq_false]
  intro q hq hs
  have := List.any_eq_false.1 (hh : es.any _ = false) q (List.mem_filter.1 hq).1
  exact this hs
end
/-- A unit is in the map just if it rests. -/
def RestX (s : MSt) (D : DataW Unit) : Prop := ∀ u : Int, 0 ≤ u → u ≤ 247 → has D (.int .i64 u) = decide (s.now < s.till u)
theorem RestR.over {s : MSt} {D : DataW Unit} (h : RestR s D) (ht : Tidy D) (hw : s.now ≤ 9223372036854775807) : RestR s (Lib.deleteFuncD (restOver s.now s.rest) D) ∧ RestX s (Lib.deleteFuncD (restOver s.now s.rest) D) := by
  have key : ∀ u : Int, 0 ≤ u → u ≤ 247 → ((has D (.int .i64 u) = true ∧ ∃ since : Int, (∀ zd, D.atKey (.int .i64 u) zd = .lit (.int .i64 since)) ∧ s.till u = since + s.rest ∧ 0 ≤ since ∧ since ≤ s.now ∧ has (Lib.deleteFuncD (restOver s.now s.rest) D) (.int .i64 u) = decide (s.now < s.till u)) ∨ (has D (.int .i64 u) = false ∧ s.till u ≤ s.now ∧ has (Lib.deleteFuncD (restOver s.now s.rest) D) (.int .i64 u) = false)) := by
    intro u h0 h1
    obtain ⟨a, b⟩ := h u h0 h1
    cases hh : has D (.int .i64 u)
    · exact Or.inr ⟨rfl, b hh, has_delF_no ht.isMap hh⟩
    · obtain ⟨since, p, q, r, t⟩ := a hh
      refine Or.inl ⟨rfl, since, p, q, r, t, ?_⟩
      rw [has_delF ht (kl := .int .i64 u) trivial p hh]
      have e : IntKind.i64.wrap (s.now - since) = s.now - since := by rw [IntKind.wrap_i64]; omega
      show (!decide (s.rest ≤ IntKind.i64.wrap (s.now - since))) = _
      rw [e]
      by_cases hd : s.rest ≤ s.now - since
      · rw [decide_eq_true hd, decide_eq_false (by omega)]
        rfl
      · rw [decide_eq_false hd, decide_eq_true (by omega)]
        rfl
  constructor
  · intro u h0 h1
    rcases key u h0 h1 with ⟨hh, since, p, q, r, t, k⟩ | ⟨hh, p, k⟩
    · rw [k]
      refine ⟨fun hd => ⟨since, fun zd => ?_, q, r, t⟩, fun hd => by have := of_decide_eq_false hd; omega⟩
      refine at_delF ht (kl := .int .i64 u) trivial p hh ?_ zd
      have hd := of_decide_eq_true hd
      have e : IntKind.i64.wrap (s.now - since) = s.now - since := by rw [IntKind.wrap_i64]; omega
      show decide (s.rest ≤ IntKind.i64.wrap (s.now - since)) = false
      rw [e]
      exact decide_eq_false (by omega)
    · rw [k]
      exact ⟨(fun hd => by cases hd), fun _ => p⟩
  · intro u h0 h1
    rcases key u h0 h1 with ⟨hh, since, p, q, r, t, k⟩ | ⟨hh, p, k⟩
    · exact k
    · rw [k]
      exact (decide_eq_false (by omega)).symm

theorem grown_but {w w' : World} {b : Nat} (g : w.grownBy w' (some b)) : But (fun i => i = b) w w' :=
  ⟨g.os, g.tape, g.output, g.size, fun i hi hs => g.block i hi (fun e => hs (Option.some.inj e))⟩
def overD (m : ML) (s : MSt) : DataW Unit := Lib.deleteFuncD (restOver s.now s.rest) m.D
theorem msEndRests (m : ML) (s : MSt) (now : Int) (w : World) (h : MsA w m s) (hn : s.now = now) (hw : now ≤ 9223372036854775807) :
    Calls Try.prog 33 #[.pointer (some ⟨m.g, 0, none⟩), .int .i64 now] w fun e w' => e = .returned (.tuple #[]) ∧ MsA w' { m with D := overD m s } s ∧ RestX s (overD m s) ∧ But (fun i => i = m.gm) w w' := by
  subst hn
  obtain ⟨c0, c1, c2, c3, c4, c5, c6, c7⟩ := h.blk.eight
  have hgl := h.blk.lt
  have H := hide h
  have HW := hide hw
  clear h c0 c1 c3 c4 c5 c6 hw
  go_enter Try.func33, Try.ntmps33
  go_wp2_with fail
  generalize hV : (w.alloc _).alloc _ = V
  obtain ⟨zA, zB, bV, sV⟩ := two_boxes w [.pointer (some ⟨m.g, 0, none⟩)] [.int .i64 s.now] _ _ V hV.symm
  clear hV
  have hA := H.out.keep bV
  have c2V : V.cell? ⟨m.g, 2, none⟩ = some (.int .i64 s.rest) := hA.blk.cell 2
  have hml := H.out.mp.lt
  have hne := H.out.ne1
  have hcon := delF_any (restOver s.now s.rest) #[.pointer (some ⟨w.heap.size + 1, 0, none⟩), .pointer (some ⟨w.heap.size, 0, none⟩)] m.gm m.n m.D V hA.mp (fun W x c hg => clos_any _ c s.now s.rest _ _ m.g W (hg.cell (zB.cell 0) (fun e => by have := Option.some.inj e; simp at this; omega)) (hg.cell (zA.cell 0) (fun e => by have := Option.some.inj e; simp at this; omega)) (hg.cell c2V (fun e => by have := Option.some.inj e; simp at this; omega)))
  refine hcon.mono ?_
  rintro e w1 ⟨rfl, m1, g1⟩
  have hb := grown_but g1
  obtain ⟨r1, r2⟩ := H.out.rests.over (H.out.mp.tidy int_keyed7) HW.out
  have hA1 : MsA w1 { m with n := m.n, D := overD m s } s := hA.turnM hb _ _ _ m1 r1 rfl rfl rfl rfl
  have A1 := hide hA1
  have R2 := hide r2
  have BB := hide (But.after bV hb)
  clear hA hcon g1 m1 hb r1 r2 hA1 zA zB bV sV c2V hml hne c2 c7
  go_wp2
  go_end0
  exact ⟨rfl, A1.out, R2.out, BB.out⟩
end Go.Proofs.Ytnialjikpoembaa
