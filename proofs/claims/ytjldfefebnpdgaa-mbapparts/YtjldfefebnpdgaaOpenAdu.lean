/-
  What is proved here: what a frame, and a row of frames, that came in as an argument is told as, for the walks of the laws. No condition of its own.
-/
import Derived.Test.YtjldfefebnpdgaaOpenRows
import Derived.Test.YtjldfefebnpdgaaMb1
namespace Go.Proofs.Ytjldfefebnpdgaa
set_option linter.unusedVariables false
set_option linter.unusedSimpArgs false
open Go.Joins Go.ChangeShapes Go.WideShapes Go.RowKit Go.Deep

section
variable {H : Type} {enc : TypeId × Value → H} {w : World} {base : Nat} {held : Bool}
/-- A frame that came in. -/
theorem open_adu {b0 : Nat} {r : Reach} {v : Value} {d : DataW H} {p : List MemPlace} (hv : Value.okWide Try.prog w r b0 24 v) (h : DataW.Trod enc Try.prog w base (fun _ => true) held 24 v d p) :
    ∃ (t u : Int) (A : Option Addr) (n k : Nat) (xs : List UInt8), v = .agg #[.int .i64 t, .int .i64 u, .slice A n k] ∧ Rd w A n (bv xs) ∧ n ≤ k := by
  obtain ⟨v0, v1, v2, y0, y1, y2, n, rfl, _, _, h0, h1, h2⟩ := open_agg3 Try.underlying24 (by kernel_rfl) (by kernel_rfl) hv h
  obtain ⟨t, e0, _⟩ := DataW.trod_int Try.underlying3 h0
  obtain ⟨u, e1, _⟩ := DataW.trod_int Try.underlying3 h1
  obtain ⟨r2, rfl, i2, l2⟩ := open_row h2
  injection e0 with e0
  injection e1 with e1
  subst e0 e1
  exact ⟨t, u, r2.A, r2.xs.length, r2.k, r2.xs, rfl, i2, l2⟩
theorem open_three {P : Program} {t : TypeId} {f0 f1 f2 : Field} {fuel : Nat} {cs : List Value} {x : DataW H × List MemPlace} (hs : P.underlying t = some (.struct #[f0, f1, f2])) (hC : P.cellsOf t = 3) (hone : oneCellFields P #[f0, f1, f2] = true)
    (h : DataW.trod enc P w base (fun _ => true) held fuel t cs = some x) :
    ∃ (v0 v1 v2 : Value) (y0 y1 y2 : DataW H × List MemPlace) (n : Nat), cs = [v0, v1, v2] ∧ DataW.trod enc P w base (fun _ => true) held n f0.type [v0] = some y0 ∧ DataW.trod enc P w base (fun _ => true) held n f1.type [v1] = some y1 ∧ DataW.trod enc P w base (fun _ => true) held n f2.type [v2] = some y2 := by
  obtain ⟨xs, n, _, _, hl, hlen, hg⟩ := DataW.trod_struct hs h
  rw [hC] at hl
  obtain ⟨o0, k0⟩ := hone_of hone 0 f0 rfl
  obtain ⟨o1, k1⟩ := hone_of hone 1 f1 rfl
  obtain ⟨o2, k2⟩ := hone_of hone 2 f2 rfl
  match cs, hl, xs, hlen with
  | [v0, v1, v2], _, [y0, y1, y2], _ =>
    exact ⟨v0, v1, v2, y0, y1, y2, n, rfl, by simpa [o0, k0] using hg 0 f0 rfl, by simpa [o1, k1] using hg 1 f1 rfl, by simpa [o2, k2] using hg 2 f2 rfl⟩
theorem open_aduCells {fuel : Nat} {cs : List Value} {x : DataW H × List MemPlace} (h : DataW.trod enc Try.prog w base (fun _ => true) held fuel 24 cs = some x) : ∃ s : AduM, cs = s.vs ∧ s.is w ∧ s.pdu.length ≤ s.k := by
  obtain ⟨v0, v1, v2, y0, y1, y2, n, rfl, h0, h1, h2⟩ := open_three Try.underlying24 (by kernel_rfl) (by kernel_rfl) h
  obtain ⟨t, e0, _⟩ := DataW.trod_int Try.underlying3 h0
  obtain ⟨u, e1, _⟩ := DataW.trod_int Try.underlying3 h1
  obtain ⟨r2, rfl, i2, l2⟩ := open_row h2
  injection e0 with e0
  injection e1 with e1
  subst e0 e1
  exact ⟨⟨t, u, r2.A, r2.k, r2.xs⟩, rfl, i2, l2⟩
/-- Frames that came in. -/
theorem open_adus {b0 : Nat} {r : Reach} {v : Value} {d : DataW H} {p : List MemPlace} (hv : Value.okWide Try.prog w r b0 35 v) (h : DataW.Trod enc Try.prog w base (fun _ => true) held 35 v d p) :
    ∃ (B : Option Addr) (len cap : Nat) (rs : List AduM), v = .slice B len cap ∧ ARd w B len rs ∧ ∀ x ∈ rs, x.pdu.length ≤ x.k := by
  obtain ⟨a0, len0, cap0, rfl⟩ := okWide_slice Try.underlying35 hv
  obtain ⟨fuel, hf⟩ := h
  rcases open_slice Try.underlying35 hf with ⟨hcs, _⟩ | ⟨ad, len, cap, m, n, D, Pl, hcs, _, hl, hm, hmm, _, hi⟩
  · simp [Value.cells] at hcs
    obtain ⟨rfl, rfl, rfl⟩ := hcs
    exact ⟨none, 0, 0, [], rfl, ARd.nil _ _, by simp⟩
  · simp [Value.cells] at hcs
    obtain ⟨rfl, rfl, rfl⟩ := hcs
    simp at hmm
    have hC : Try.prog.cellsOf 24 = 3 := by kernel_rfl
    rw [hC] at hi
    have hx : ∀ i, i < len0 → ∃ s : AduM, (∀ j v, s.vs[j]? = some v → w.cell? (ad.add (i * 3 + j)) = some v) ∧ s.is w ∧ s.pdu.length ≤ s.k := by
      intro i hi'
      obtain ⟨cs', hc, ht⟩ := hi i (by omega)
      obtain ⟨s, rfl, h1, h2⟩ := open_aduCells ht
      obtain ⟨_, hcl, hat⟩ := World.cells?_some hc
      refine ⟨s, fun j v hv => ?_, h1, h2⟩
      have hj : j < 3 := by
        have := (List.getElem?_eq_some_iff.1 hv).1
        simpa [AduM.vs] using this
      rw [← Go.Deep.add_add, hat j hj, hv]
    let f : Nat → AduM := fun i => if h : i < len0 then Classical.choose (hx i h) else ⟨0, 0, none, 0, []⟩
    have hf : ∀ i, i < len0 → (∀ j v, (f i).vs[j]? = some v → w.cell? (ad.add (i * 3 + j)) = some v) ∧ (f i).is w ∧ (f i).pdu.length ≤ (f i).k := by
      intro i hi'
      have := Classical.choose_spec (hx i hi')
      simp only [f, dif_pos hi']
      exact this
    have hmem : ∀ r ∈ (List.range len0).map f, r.is w ∧ r.pdu.length ≤ r.k := by
      intro r hr
      simp only [List.mem_map, List.mem_range] at hr
      obtain ⟨i, hi', rfl⟩ := hr
      exact (hf i hi').2
    refine ⟨some ad, len0, cap0, (List.range len0).map f, rfl, ⟨⟨by rw [avs_length]; simp, fun h0 => ?_⟩, fun r hr => (hmem r hr).1⟩, fun r hr => (hmem r hr).2⟩
    obtain ⟨b, o, sp⟩ := ad
    have h00 := (hf 0 (by omega)).1 0 _ rfl
    have hx0 : (⟨b, o, sp⟩ : Addr).add (0 * 3 + 0) = ⟨b, o, sp⟩ := by simp [Addr.add]
    rw [hx0] at h00
    have hs : sp = none := World.cell?_spot h00
    subst hs
    refine ⟨b, o, rfl, block_lt_of_cell h00, fun i v hv => ?_⟩
    have hi' : i < len0 * 3 := by
      have := (List.getElem?_eq_some_iff.1 hv).1
      rw [avs_length] at this
      simpa using this
    have hd : i = (i / 3) * 3 + i % 3 := by omega
    have hq : i / 3 < len0 := by omega
    rw [hd, avs_get _ (i / 3) (f (i / 3)) (i % 3) (by rw [List.getElem?_map, List.getElem?_range hq]; rfl) (by omega)] at hv
    have := (hf (i / 3) hq).1 (i % 3) v hv
    rw [add_at] at this
    rw [hd]
    exact this
end

end Go.Proofs.Ytjldfefebnpdgaa
