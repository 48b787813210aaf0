/-
  What is proved here: what rows of rows of bytes that came in as an argument are told as, for the walks of the laws. No condition of its own.
-/
import Derived.Test.YtdlhcecmodefkaaOpenPdu
import Derived.Test.YtdlhcecmodefkaaMem5
import Derived.Deep.Slices
import Derived.Deep.Fields
namespace Go.Proofs.Ytdlhcecmodefkaa
set_option linter.unusedVariables false
set_option linter.unusedSimpArgs false
open Go.Joins Go.ChangeShapes Go.WideShapes Go.RowKit Go.Deep

section
variable {H : Type} {enc : TypeId × Value → H} {w : World} {base : Nat} {held : Bool}
/-- One row, out of its cell. -/
theorem open_row {fuel : Nat} {v : Value} {x : DataW H × List MemPlace} (h : DataW.trod enc Try.prog w base (fun _ => true) held fuel 31 [v] = some x) : ∃ r : RowE, v = r.v ∧ r.is w ∧ r.xs.length ≤ r.k := by
  rcases open_ints Try.underlying31 Try.underlying5 (by kernel_rfl) h with ⟨hcs, _⟩ | ⟨x, l, c, zs, hcs, _, hl, hm, hz, _, hcell, hwz⟩
  · injection hcs with hcs
    subst hcs
    exact ⟨⟨none, 0, []⟩, rfl, Rd.nil _ _, Nat.le_refl _⟩
  · injection hcs with hcs
    subst hcs
    obtain ⟨xs, h1, h2, h3, h4⟩ := rd_bytes (w := w) (a := some x) (len := l) (cap := c) (zs := zs) (.inr ⟨x, rfl, hl, hm, by simpa using hz, hcell, hwz⟩)
    subst h2
    exact ⟨⟨some x, c, xs⟩, rfl, h1, h3⟩
set_option maxRecDepth 100000 in
/-- Rows of bytes that came in. -/
theorem open_rows {b0 : Nat} {r : Reach} {v : Value} {d : DataW H} {p : List MemPlace} (hv : Value.okWide Try.prog w r b0 42 v) (h : DataW.Trod enc Try.prog w base (fun _ => true) held 42 v d p) :
    ∃ (B : Option Addr) (len cap : Nat) (rs : List RowE), v = .slice B len cap ∧ RRd w B len rs ∧ ∀ x ∈ rs, x.xs.length ≤ x.k := by
  obtain ⟨a0, len0, cap0, rfl⟩ := okWide_slice Try.underlying42 hv
  obtain ⟨fuel, hf⟩ := h
  rcases open_slice Try.underlying42 hf with ⟨hcs, _⟩ | ⟨ad, len, cap, m, n, D, Pl, hcs, _, hl, hm, hmm, _, hi⟩
  · simp [Value.cells] at hcs
    obtain ⟨rfl, rfl, rfl⟩ := hcs
    exact ⟨none, 0, 0, [], rfl, RRd.nil _ _, by simp⟩
  · simp [Value.cells] at hcs
    obtain ⟨rfl, rfl, rfl⟩ := hcs
    simp at hmm
    have hC : Try.prog.cellsOf 31 = 1 := by kernel_rfl
    rw [hC] at hi
    have hx : ∀ i, i < len0 → ∃ s : RowE, w.cell? (ad.add i) = some s.v ∧ s.is w ∧ s.xs.length ≤ s.k := by
      intro i hi'
      obtain ⟨cs', hc, ht⟩ := hi i (by omega)
      obtain ⟨_, hcl, hat⟩ := World.cells?_some hc
      match cs', hcl with
      | [u], _ =>
        obtain ⟨s, rfl, h1, h2⟩ := open_row ht
        refine ⟨s, ?_, h1, h2⟩
        have := hat 0 (by omega)
        rw [Go.Deep.add_add] at this
        simpa using this
    let f : Nat → RowE := fun i => if h : i < len0 then Classical.choose (hx i h) else ⟨none, 0, []⟩
    have hf : ∀ i, i < len0 → w.cell? (ad.add i) = some (f i).v ∧ (f i).is w ∧ (f i).xs.length ≤ (f i).k := by
      intro i hi'
      have := Classical.choose_spec (hx i hi')
      simp only [f, dif_pos hi']
      exact this
    have hmem : ∀ r ∈ (List.range len0).map f, r.is w ∧ r.xs.length ≤ r.k := by
      intro r hr
      simp only [List.mem_map, List.mem_range] at hr
      obtain ⟨i, hi', rfl⟩ := hr
      exact (hf i hi').2
    refine ⟨some ad, len0, cap0, (List.range len0).map f, rfl, ⟨⟨by simp, fun h0 => ?_⟩, fun r hr => (hmem r hr).1⟩, fun r hr => (hmem r hr).2⟩
    obtain ⟨b, o, sp⟩ := ad
    have h00 := (hf 0 h0).1
    have hx0 : (⟨b, o, sp⟩ : Addr).add 0 = ⟨b, o, sp⟩ := by simp [Addr.add]
    rw [hx0] at h00
    have hs : sp = none := World.cell?_spot h00
    subst hs
    refine ⟨b, o, rfl, block_lt_of_cell h00, fun i v hv => ?_⟩
    have hi' : i < len0 := by
      have := (List.getElem?_eq_some_iff.1 hv).1
      simpa using this
    rw [List.map_map, List.getElem?_map, List.getElem?_range hi'] at hv
    injection hv with hv
    have := (hf i hi').1
    rw [add_at] at this
    rw [this, ← hv]
    rfl
end

end Go.Proofs.Ytdlhcecmodefkaa
