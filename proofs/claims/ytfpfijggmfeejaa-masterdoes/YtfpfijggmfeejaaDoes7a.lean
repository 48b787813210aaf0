/-
  What is proved here: the program's master and the document's side by side in memory, and what a call of the one leaves of the other. Conditions: ticks and rests of at most 10^9, lists of at most 10^6.
-/
import Derived.Test.YtfpfijggmfeejaaAns7
import Derived.Test.YtfpfijggmfeejaaFew7
import Derived.Test.YtfpfijggmfeejaaRs9
namespace Go.Proofs.Ytfpfijggmfeejaa
set_option linter.unusedVariables false
set_option linter.unusedSimpArgs false
open Go.RowKit Go.Maps

theorem step_dn (s : MSt) (now : Int) : ∀ d ∈ (stepR s now).2.1, d.an.us = [] := by
  intro d hd
  cases hb : tickBad s now
  · rcases out_cases s with ho | ⟨x, t, ho⟩
    · rw [stepR_none hb ho] at hd
      cases hd
    · by_cases hl : now - s.last < s.wait
      · rw [stepR_wait hb ho hl] at hd
        cases hd
      · by_cases ht : t < s.again + 1
        · rw [stepR_again hb ho hl ht] at hd
          cases hd
        · rw [stepR_late hb ho hl ht] at hd
          simp at hd
          subst hd
          rfl
  · rw [stepR_bad hb] at hd
    cases hd
theorem SRd1.rows {w : World} {O : Option Addr} {n : Nat} {rs : List SM} (h : SRd1 w O n rs) : SRd w O n rs := by
  rcases h with ⟨rfl, rfl⟩ | ⟨y, b, rfl, rfl, rfl, hb, hy⟩
  · exact SRd.nil _ _
  · refine ⟨?_, by intro x hx; simp at hx; subst hx; exact hy.is⟩
    show Rd w _ (1 * 9) (y.vs ++ [])
    rw [List.append_nil]
    exact hb.rd
theorem SRd1.off {S : Nat → Prop} {w w' : World} {O : Option Addr} {n : Nat} {rs : List SM} (h : SRd1 w O n rs) (b : But S w w') (hs : ∀ b o, O = some ⟨b, o, none⟩ → ¬ S b) (hv : ∀ y : SM, y.own w → Off S y.V) : SRd1 w' O n rs := by
  rcases h with h | ⟨r, g, rfl, e2, e3, h1, h2⟩
  · exact Or.inl h
  · exact Or.inr ⟨r, g, rfl, e2, e3, h1.but b (hs g 0 e3), h2.but b (hv r h2)⟩
theorem DRd.offE {S : Nat → Prop} {w w' : World} {O : Option Addr} {n : Nat} {ds : List DM} (h : DRd w O n ds) (b : But S w w') (hs : ∀ b o, O = some ⟨b, o, none⟩ → ¬ S b) (hv : ∀ d ∈ ds, Off S d.V ∨ d.an.us = []) : DRd w' O n ds := by
  rcases h with h | ⟨d, g, rfl, e2, e3, h1, h2⟩
  · exact Or.inl h
  · refine Or.inr ⟨d, g, rfl, e2, e3, h1.but b (hs g 0 e3), ?_⟩
    rcases hv d (by simp) with h | h
    · exact Rd.but h2 b h
    · show Rd w' d.V d.an.us.length (iv d.an.us)
      rw [h]
      exact Rd.nil _ _

/-- Both, side by side, above the old world. -/
structure DDw (v : World) (k : Nat) (sP sD : MSt) (m : ML) (R : RL) (w : World) : Prop where
  M : MsW v.heap.size w m sP
  n : m.n ≤ k
  D : RsA w R sD
  lo : ∀ i, R.S i → v.heap.size ≤ i
  ap : ∀ i, m.S i → ¬ R.S i
  bel : Below v.heap.size v w
section
variable {v w w' : World} {k : Nat} {sP sD : MSt} {m m' : ML} {R R' : RL}
theorem DDw.keep (h : DDw v k sP sD m R w) (b : Below w.heap.size w w') : DDw v k sP sD m R w' := ⟨h.M.keep b, h.n, h.D.keep b, h.lo, h.ap, below_on h.bel b⟩
theorem DDw.afterP (h : DDw v k sP sD m R w) {k' : Nat} {s' : MSt} (hM : MsW v.heap.size w' m' s') (hn : m'.n ≤ k') (hv : Below v.heap.size v w') (b : But m.S w w') (hs : ∀ i, m'.S i → m.S i ∨ w.heap.size ≤ i) : DDw v k' s' sD m' R w' :=
  ⟨hM, hn, h.D.but b h.ap (fun ho => h.M.a.off ho), h.lo, fun i hi hr => (hs i hi).elim (fun e => h.ap i e hr) (fun e => by have := h.D.lt i hr; omega), hv⟩
theorem DDw.afterD (h : DDw v k sP sD m R w) {s' : MSt} (hD : RsA w' R' s') (b : But R.S w w') (hs : ∀ i, R'.S i → R.S i ∨ w.heap.size ≤ i) : DDw v k sP s' m R' w' :=
  ⟨⟨h.M.a.but b (fun i h1 h2 => h.ap i h2 h1) (fun ho => h.D.off ho), h.M.ok, h.M.lo⟩, h.n, hD, fun i hi => (hs i hi).elim (h.lo i) (fun e => by have := h.bel.size; omega), fun i hi hr => (hs i hr).elim (h.ap i hi) (fun e => by have := h.M.a.lt i hi; omega), But.below h.bel b h.lo h.bel.size⟩
end

end Go.Proofs.Ytfpfijggmfeejaa
