/-
  What is proved here: what a script of calls that came in is told as; the law's own 'few'. No condition of its own.
-/
import Derived.Test.YtohiblldhdglgaaOpenPdu
import Derived.Test.YtohiblldhdglgaaPduDef
import Derived.Deep.Slices
import Derived.Deep.Fields
import Derived.ChangeSame
import Derived.LoopTactic
namespace Go.Proofs.Ytohiblldhdglgaa
set_option linter.unusedVariables false
set_option linter.unusedSimpArgs false
open Go.Joins Go.ChangeShapes Go.WideShapes Go.RowKit Go.Deep

/-- A call of a script. -/
structure SOp where
  call : Int
  kind : Int
  addr : Int
  value : Int
  f : Int
  a : Int
  c : Int
  A : Option Addr
  n : Nat
  k : Nat
  t : Int
  an : Int
  o : Int
  vs : List Int
def SOp.cells (x : SOp) : List Value := [.int .i64 x.call, .int .i64 x.kind, .int .i64 x.addr, .int .i64 x.value, .int .i64 x.f, .int .i64 x.a, .int .i64 x.c, .slice x.A x.n x.k, .int .i64 x.t, .int .i64 x.an, .int .i64 x.o]
/-- A script lies in memory. -/
def ScrP (w : World) (B : Option Addr) (len : Nat) (xs : Nat → SOp) : Prop :=
  0 < len → ∃ b o, B = some ⟨b, o, none⟩ ∧ b < w.heap.size ∧ ∀ i, i < len → (∀ j v, (xs i).cells[j]? = some v → w.cell? ⟨b, o + (i * 11 + j), none⟩ = some v) ∧ Rd w (xs i).A (xs i).n (iv (xs i).vs)
theorem ScrP.at_ {w : World} {B : Option Addr} {len : Nat} {xs : Nat → SOp} (h : ScrP w B len xs) {i : Nat} (hi : i < len) : ∃ b o, B = some ⟨b, o, none⟩ ∧ b < w.heap.size ∧ (∀ j v, (xs i).cells[j]? = some v → w.cell? ⟨b, o + (i * 11 + j), none⟩ = some v) ∧ Rd w (xs i).A (xs i).n (iv (xs i).vs) := by
  obtain ⟨b, o, e, hb, hc⟩ := h (by omega)
  exact ⟨b, o, e, hb, hc i hi⟩

section
variable {H : Type} {enc : TypeId × Value → H} {w : World} {base : Nat} {held : Bool}
theorem open_five {P : Program} {t : TypeId} {f0 f1 f2 f3 f4 : Field} {fuel : Nat} {cs : List Value} {x : DataW H × List MemPlace} (hs : P.underlying t = some (.struct #[f0, f1, f2, f3, f4])) (hC : P.cellsOf t = 11)
    (o0 : f0.offset = 0 ∧ P.cellsOf f0.type = 1) (o1 : f1.offset = 1 ∧ P.cellsOf f1.type = 1) (o2 : f2.offset = 2 ∧ P.cellsOf f2.type = 1) (o3 : f3.offset = 3 ∧ P.cellsOf f3.type = 1) (o4 : f4.offset = 4 ∧ P.cellsOf f4.type = 7)
    (h : DataW.trod enc P w base (fun _ => true) held fuel t cs = some x) :
    ∃ (v0 v1 v2 v3 v4 v5 v6 v7 v8 v9 v10 : Value) (y0 y1 y2 y3 y4 : DataW H × List MemPlace) (n : Nat), cs = [v0, v1, v2, v3, v4, v5, v6, v7, v8, v9, v10] ∧
      DataW.trod enc P w base (fun _ => true) held n f0.type [v0] = some y0 ∧ DataW.trod enc P w base (fun _ => true) held n f1.type [v1] = some y1 ∧ DataW.trod enc P w base (fun _ => true) held n f2.type [v2] = some y2 ∧ DataW.trod enc P w base (fun _ => true) held n f3.type [v3] = some y3 ∧
      DataW.trod enc P w base (fun _ => true) held n f4.type [v4, v5, v6, v7, v8, v9, v10] = some y4 := by
  obtain ⟨xs, n, _, _, hl, hlen, hf⟩ := DataW.trod_struct hs h
  rw [hC] at hl
  match cs, hl, xs, hlen with
  | [v0, v1, v2, v3, v4, v5, v6, v7, v8, v9, v10], _, [y0, y1, y2, y3, y4], _ =>
    exact ⟨v0, v1, v2, v3, v4, v5, v6, v7, v8, v9, v10, y0, y1, y2, y3, y4, n, rfl, by simpa [o0.1, o0.2] using hf 0 f0 rfl, by simpa [o1.1, o1.2] using hf 1 f1 rfl, by simpa [o2.1, o2.2] using hf 2 f2 rfl, by simpa [o3.1, o3.2] using hf 3 f3 rfl, by simpa [o4.1, o4.2] using hf 4 f4 rfl⟩
theorem open_seven {P : Program} {t : TypeId} {f0 f1 f2 f3 f4 f5 f6 : Field} {fuel : Nat} {v0 v1 v2 v3 v4 v5 v6 : Value} {x : DataW H × List MemPlace} (hs : P.underlying t = some (.struct #[f0, f1, f2, f3, f4, f5, f6])) (hone : oneCellFields P #[f0, f1, f2, f3, f4, f5, f6] = true)
    (h : DataW.trod enc P w base (fun _ => true) held fuel t [v0, v1, v2, v3, v4, v5, v6] = some x) :
    ∃ (y0 y1 y2 y3 y4 y5 y6 : DataW H × List MemPlace) (n : Nat),
      DataW.trod enc P w base (fun _ => true) held n f0.type [v0] = some y0 ∧ DataW.trod enc P w base (fun _ => true) held n f1.type [v1] = some y1 ∧ DataW.trod enc P w base (fun _ => true) held n f2.type [v2] = some y2 ∧ DataW.trod enc P w base (fun _ => true) held n f3.type [v3] = some y3 ∧ DataW.trod enc P w base (fun _ => true) held n f4.type [v4] = some y4 ∧ DataW.trod enc P w base (fun _ => true) held n f5.type [v5] = some y5 ∧ DataW.trod enc P w base (fun _ => true) held n f6.type [v6] = some y6 := by
  obtain ⟨xs, n, _, _, _, hlen, hg⟩ := DataW.trod_struct hs h
  obtain ⟨o0, k0⟩ := hone_of hone 0 f0 rfl
  obtain ⟨o1, k1⟩ := hone_of hone 1 f1 rfl
  obtain ⟨o2, k2⟩ := hone_of hone 2 f2 rfl
  obtain ⟨o3, k3⟩ := hone_of hone 3 f3 rfl
  obtain ⟨o4, k4⟩ := hone_of hone 4 f4 rfl
  obtain ⟨o5, k5⟩ := hone_of hone 5 f5 rfl
  obtain ⟨o6, k6⟩ := hone_of hone 6 f6 rfl
  match xs, hlen with
  | [y0, y1, y2, y3, y4, y5, y6], _ =>
    exact ⟨y0, y1, y2, y3, y4, y5, y6, n, by simpa [o0, k0] using hg 0 f0 rfl, by simpa [o1, k1] using hg 1 f1 rfl, by simpa [o2, k2] using hg 2 f2 rfl, by simpa [o3, k3] using hg 3 f3 rfl, by simpa [o4, k4] using hg 4 f4 rfl, by simpa [o5, k5] using hg 5 f5 rfl, by simpa [o6, k6] using hg 6 f6 rfl⟩
/-- One call, out of its cells. -/
theorem open_op {fuel : Nat} {cs : List Value} {x : DataW H × List MemPlace} (h : DataW.trod enc Try.prog w base (fun _ => true) held fuel 36 cs = some x) : ∃ s : SOp, cs = s.cells ∧ Rd w s.A s.n (iv s.vs) := by
  obtain ⟨v0, v1, v2, v3, v4, v5, v6, v7, v8, v9, v10, y0, y1, y2, y3, y4, n, rfl, h0, h1, h2, h3, h4⟩ := open_five Try.underlying36 (by kernel_rfl) ⟨rfl, by kernel_rfl⟩ ⟨rfl, by kernel_rfl⟩ ⟨rfl, by kernel_rfl⟩ ⟨rfl, by kernel_rfl⟩ ⟨rfl, by kernel_rfl⟩ h
  obtain ⟨z0, z1, z2, z3, z4, z5, z6, n', r0, r1, r2, r3, r4, r5, r6⟩ := open_seven Try.underlying34 (by kernel_rfl) h4
  obtain ⟨a0, e0, _⟩ := DataW.trod_int Try.underlying3 h0
  obtain ⟨a1, e1, _⟩ := DataW.trod_int Try.underlying3 h1
  obtain ⟨a2, e2, _⟩ := DataW.trod_int Try.underlying3 h2
  obtain ⟨a3, e3, _⟩ := DataW.trod_int Try.underlying3 h3
  obtain ⟨f, e4, _⟩ := DataW.trod_int Try.underlying3 r0
  obtain ⟨a, e5, _⟩ := DataW.trod_int Try.underlying3 r1
  obtain ⟨c, e6, _⟩ := DataW.trod_int Try.underlying3 r2
  obtain ⟨A, len, cap, vs, rfl, hr, _, _, _, _⟩ := open_iv Try.underlying32 Try.underlying3 (by kernel_rfl) r3
  obtain ⟨t, e8, _⟩ := DataW.trod_int Try.underlying3 r4
  obtain ⟨an, e9, _⟩ := DataW.trod_int Try.underlying3 r5
  obtain ⟨o, e10, _⟩ := DataW.trod_int Try.underlying3 r6
  injection e0 with e0
  injection e1 with e1
  injection e2 with e2
  injection e3 with e3
  injection e4 with e4
  injection e5 with e5
  injection e6 with e6
  injection e8 with e8
  injection e9 with e9
  injection e10 with e10
  subst e0 e1 e2 e3 e4 e5 e6 e8 e9 e10
  exact ⟨⟨a0, a1, a2, a3, f, a, c, A, len, cap, t, an, o, vs⟩, rfl, hr⟩
/-- A script that came in. -/
theorem open_script4 {b0 : Nat} {r : Reach} {v : Value} {d : DataW H} {p : List MemPlace} (hv : Value.okWide Try.prog w r b0 22 v) (h : DataW.Trod enc Try.prog w base (fun _ => true) held 22 v d p) :
    ∃ (B : Option Addr) (len cap : Nat) (xs : Nat → SOp), v = .slice B len cap ∧ ScrP w B len xs := by
  obtain ⟨a0, len0, cap0, rfl⟩ := okWide_slice Try.underlying22 hv
  obtain ⟨fuel, hf⟩ := h
  rcases open_slice Try.underlying22 hf with ⟨hcs, _⟩ | ⟨ad, len, cap, m, n, D, Pl, hcs, _, hl, hm, hmm, _, hi⟩
  · simp [Value.cells] at hcs
    obtain ⟨rfl, rfl, rfl⟩ := hcs
    exact ⟨none, 0, 0, fun _ => ⟨0, 0, 0, 0, 0, 0, 0, none, 0, 0, 0, 0, 0, []⟩, rfl, fun h => absurd h (Nat.lt_irrefl 0)⟩
  · simp [Value.cells] at hcs
    obtain ⟨rfl, rfl, rfl⟩ := hcs
    simp at hmm
    have hC : Try.prog.cellsOf 36 = 11 := by kernel_rfl
    rw [hC] at hi
    have hx : ∀ i, i < len0 → ∃ s : SOp, (∀ j v, s.cells[j]? = some v → w.cell? (ad.add (i * 11 + j)) = some v) ∧ Rd w s.A s.n (iv s.vs) := by
      intro i hi'
      obtain ⟨cs', hc, ht⟩ := hi i (by omega)
      obtain ⟨s, rfl, hr⟩ := open_op ht
      obtain ⟨_, hcl, hat⟩ := World.cells?_some hc
      refine ⟨s, fun j v hv => ?_, hr⟩
      have hj : j < 11 := by
        have := (List.getElem?_eq_some_iff.1 hv).1
        simpa [SOp.cells] using this
      rw [← Go.Deep.add_add, hat j hj, hv]
    refine ⟨some ad, len0, cap0, fun i => if h : i < len0 then Classical.choose (hx i h) else ⟨0, 0, 0, 0, 0, 0, 0, none, 0, 0, 0, 0, 0, []⟩, rfl, fun h0 => ?_⟩
    obtain ⟨b, o, sp⟩ := ad
    have h00 := (Classical.choose_spec (hx 0 h0)).1 0 _ rfl
    have hx0 : (⟨b, o, sp⟩ : Addr).add (0 * 11 + 0) = ⟨b, o, sp⟩ := by simp [Addr.add]
    rw [hx0] at h00
    have hs : sp = none := World.cell?_spot h00
    subst hs
    refine ⟨b, o, rfl, block_lt_of_cell h00, fun i hi' => ?_⟩
    simp only [dif_pos hi']
    have hsp := Classical.choose_spec (hx i hi')
    refine ⟨fun j v hv => ?_, hsp.2⟩
    have := hsp.1 j v hv
    rwa [add_at] at this
end

end Go.Proofs.Ytohiblldhdglgaa
