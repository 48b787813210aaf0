/-
  What is proved here: what a row of requests, and a script of layer 7's calls, that came in as arguments are told as, for the walks of the laws. No condition of its own.
-/
import Derived.Test.YtfpfijggmfeejaaOpenPdu
import Derived.Test.YtfpfijggmfeejaaMs1
import Derived.Deep.Slices
import Derived.Deep.Fields
import Derived.ChangeSame
namespace Go.Proofs.Ytfpfijggmfeejaa
set_option linter.unusedVariables false
set_option linter.unusedSimpArgs false
set_option maxRecDepth 100000
open Go.Joins Go.ChangeShapes Go.WideShapes Go.RowKit Go.Deep

/-- A request that came in. -/
structure RqI where
  r : Rq
  A : Option Addr
  k : Nat
def RqI.cells (x : RqI) : List Value := rqv x.r x.A x.k
/-- Requests that came in. -/
def ReqP (w : World) (B : Option Addr) (len : Nat) (xs : Nat → RqI) : Prop :=
  0 < len → ∃ b o, B = some ⟨b, o, none⟩ ∧ b < w.heap.size ∧ ∀ i, i < len → (∀ j v, (xs i).cells[j]? = some v → w.cell? ⟨b, o + (i * 7 + j), none⟩ = some v) ∧ Rd w (xs i).A (xs i).r.vs.length (iv (xs i).r.vs)
theorem ReqP.at_ {w : World} {B : Option Addr} {len : Nat} {xs : Nat → RqI} (h : ReqP w B len xs) {i : Nat} (hi : i < len) : ∃ b o, B = some ⟨b, o, none⟩ ∧ b < w.heap.size ∧ (∀ j v, (xs i).cells[j]? = some v → w.cell? ⟨b, o + (i * 7 + j), none⟩ = some v) ∧ Rd w (xs i).A (xs i).r.vs.length (iv (xs i).r.vs) := by
  obtain ⟨b, o, e, hb, hc⟩ := h (by omega)
  exact ⟨b, o, e, hb, hc i hi⟩
/-- A call that came in. -/
structure Op7 where
  call : Int
  now : Int
  unit : Int
  r : Rq
  A : Option Addr
  k : Nat
  P : Option Addr
  pl : Nat
  pk : Nat
  pdu : List UInt8
  value : Int
def Op7.cells (x : Op7) : List Value := [.int .i64 x.call, .int .i64 x.now, .int .i64 x.unit, .int .i64 x.r.f, .int .i64 x.r.a, .int .i64 x.r.c, .slice x.A x.r.vs.length x.k, .int .i64 x.r.t, .int .i64 x.r.an, .int .i64 x.r.o, .slice x.P x.pl x.pk, .int .i64 x.value]
/-- What holds of a call that came in. -/
structure Op7.is (w : World) (x : Op7) : Prop where
  vs : Rd w x.A x.r.vs.length (iv x.r.vs)
  pd : Rd w x.P x.pl (bv x.pdu)
  pk : x.pl ≤ x.pk
  nw : (Lit.int .i64 x.now).wf = true
  va : (Lit.int .i64 x.value).wf = true
/-- A script in memory. -/
def ScrP7 (w : World) (B : Option Addr) (len : Nat) (xs : Nat → Op7) : Prop :=
  0 < len → ∃ b o, B = some ⟨b, o, none⟩ ∧ b < w.heap.size ∧ ∀ i, i < len → (∀ j v, (xs i).cells[j]? = some v → w.cell? ⟨b, o + (i * 12 + j), none⟩ = some v) ∧ (xs i).is w
theorem ScrP7.at_ {w : World} {B : Option Addr} {len : Nat} {xs : Nat → Op7} (h : ScrP7 w B len xs) {i : Nat} (hi : i < len) : ∃ b o, B = some ⟨b, o, none⟩ ∧ b < w.heap.size ∧ (∀ j v, (xs i).cells[j]? = some v → w.cell? ⟨b, o + (i * 12 + j), none⟩ = some v) ∧ (xs i).is w := by
  obtain ⟨b, o, e, hb, hc⟩ := h (by omega)
  exact ⟨b, o, e, hb, hc i hi⟩
section
variable {H : Type} {enc : TypeId × Value → H} {w : World} {base : Nat} {held : Bool}
theorem open_seven7 {P : Program} {t : TypeId} {f0 f1 f2 f3 f4 f5 f6 : Field} {fuel : Nat} {v0 v1 v2 v3 v4 v5 v6 : Value} {x : DataW H × List MemPlace} (hs : P.underlying t = some (.struct #[f0, f1, f2, f3, f4, f5, f6])) (hone : oneCellFields P #[f0, f1, f2, f3, f4, f5, f6] = true)
    (h : DataW.trod enc P w base (fun _ => true) held fuel t [v0, v1, v2, v3, v4, v5, v6] = some x) :
    ∃ (y0 y1 y2 y3 y4 y5 y6 : DataW H × List MemPlace) (n : Nat),
      DataW.trod enc P w base (fun _ => true) held n f0.type [v0] = some y0 ∧ DataW.trod enc P w base (fun _ => true) held n f1.type [v1] = some y1 ∧ DataW.trod enc P w base (fun _ => true) held n f2.type [v2] = some y2 ∧ DataW.trod enc P w base (fun _ => true) held n f3.type [v3] = some y3 ∧ DataW.trod enc P w base (fun _ => true) held n f4.type [v4] = some y4 ∧ DataW.trod enc P w base (fun _ => true) held n f5.type [v5] = some y5 ∧ DataW.trod enc P w base (fun _ => true) held n f6.type [v6] = some y6 := by
  obtain ⟨xs, n, _, _, _, hlen, hg⟩ := DataW.trod_struct hs h
  obtain ⟨o0, k0⟩ := hone_of hone 0 f0 rfl
  obtain ⟨o1, k1⟩ := hone_of hone 1 f1 rfl
  obtain ⟨o2, k2⟩ := hone_of hone 2 f2 rfl
  obtain ⟨o3, k3⟩ := hone_of hone 3 f3 rfl
  obtain ⟨o4, k4⟩ := hone_of hone 4 f4 rfl
  obtain ⟨o5, k5⟩ := hone_of hone 5 f5 rfl
  obtain ⟨o6, k6⟩ := hone_of hone 6 f6 rfl
  match xs, hlen with
  | [y0, y1, y2, y3, y4, y5, y6], _ =>
    exact ⟨y0, y1, y2, y3, y4, y5, y6, n, by simpa [o0, k0] using hg 0 f0 rfl, by simpa [o1, k1] using hg 1 f1 rfl, by simpa [o2, k2] using hg 2 f2 rfl, by simpa [o3, k3] using hg 3 f3 rfl, by simpa [o4, k4] using hg 4 f4 rfl, by simpa [o5, k5] using hg 5 f5 rfl, by simpa [o6, k6] using hg 6 f6 rfl⟩
/-- A row's block lies in the world. -/
theorem rd_lt {w : World} {A : Option Addr} {n : Nat} {vs : List Value} (h : Rd w A n vs) (h0 : 0 < n) (b o : Nat) (e : A = some ⟨b, o, none⟩) : b < w.heap.size := by
  obtain ⟨b', o', e', hl, _⟩ := h.2 h0
  rw [e] at e'
  injection e' with e'
  injection e' with e1 _ _
  omega
/-- One request, out of its cells. -/
theorem open_req7 {fuel : Nat} {v0 v1 v2 v3 v4 v5 v6 : Value} {x : DataW H × List MemPlace} (h : DataW.trod enc Try.prog w base (fun _ => true) held fuel 37 [v0, v1, v2, v3, v4, v5, v6] = some x) : ∃ s : RqI, [v0, v1, v2, v3, v4, v5, v6] = s.cells ∧ Rd w s.A s.r.vs.length (iv s.r.vs) := by
  obtain ⟨z0, z1, z2, z3, z4, z5, z6, n', r0, r1, r2, r3, r4, r5, r6⟩ := open_seven7 Try.underlying37 (by kernel_rfl) h
  obtain ⟨f, e0, _⟩ := DataW.trod_int Try.underlying3 r0
  obtain ⟨a, e1, _⟩ := DataW.trod_int Try.underlying3 r1
  obtain ⟨c, e2, _⟩ := DataW.trod_int Try.underlying3 r2
  obtain ⟨A, len, cap, vs, rfl, hr, _, _, _, _⟩ := open_iv Try.underlying35 Try.underlying3 (by kernel_rfl) r3
  obtain ⟨t, e4, _⟩ := DataW.trod_int Try.underlying3 r4
  obtain ⟨an, e5, _⟩ := DataW.trod_int Try.underlying3 r5
  obtain ⟨o, e6, _⟩ := DataW.trod_int Try.underlying3 r6
  injection e0 with e0
  injection e1 with e1
  injection e2 with e2
  injection e4 with e4
  injection e5 with e5
  injection e6 with e6
  subst e0 e1 e2 e4 e5 e6
  have hl : vs.length = len := by rw [← iv_length]; exact hr.1
  subst hl
  exact ⟨⟨⟨f, a, c, vs, t, an, o⟩, A, cap⟩, rfl, hr⟩
theorem open_six7 {P : Program} {t : TypeId} {f0 f1 f2 f3 f4 f5 : Field} {fuel : Nat} {cs : List Value} {x : DataW H × List MemPlace} (hs : P.underlying t = some (.struct #[f0, f1, f2, f3, f4, f5])) (hC : P.cellsOf t = 12)
    (o0 : f0.offset = 0 ∧ P.cellsOf f0.type = 1) (o1 : f1.offset = 1 ∧ P.cellsOf f1.type = 1) (o2 : f2.offset = 2 ∧ P.cellsOf f2.type = 1) (o3 : f3.offset = 3 ∧ P.cellsOf f3.type = 7) (o4 : f4.offset = 10 ∧ P.cellsOf f4.type = 1) (o5 : f5.offset = 11 ∧ P.cellsOf f5.type = 1)
    (h : DataW.trod enc P w base (fun _ => true) held fuel t cs = some x) :
    ∃ (v0 v1 v2 v3 v4 v5 v6 v7 v8 v9 v10 v11 : Value) (y0 y1 y2 y3 y4 y5 : DataW H × List MemPlace) (n : Nat), cs = [v0, v1, v2, v3, v4, v5, v6, v7, v8, v9, v10, v11] ∧
      DataW.trod enc P w base (fun _ => true) held n f0.type [v0] = some y0 ∧ DataW.trod enc P w base (fun _ => true) held n f1.type [v1] = some y1 ∧ DataW.trod enc P w base (fun _ => true) held n f2.type [v2] = some y2 ∧
      DataW.trod enc P w base (fun _ => true) held n f3.type [v3, v4, v5, v6, v7, v8, v9] = some y3 ∧ DataW.trod enc P w base (fun _ => true) held n f4.type [v10] = some y4 ∧ DataW.trod enc P w base (fun _ => true) held n f5.type [v11] = some y5 := by
  obtain ⟨xs, n, _, _, hl, hlen, hf⟩ := DataW.trod_struct hs h
  rw [hC] at hl
  match cs, hl, xs, hlen with
  | [v0, v1, v2, v3, v4, v5, v6, v7, v8, v9, v10, v11], _, [y0, y1, y2, y3, y4, y5], _ =>
    exact ⟨v0, v1, v2, v3, v4, v5, v6, v7, v8, v9, v10, v11, y0, y1, y2, y3, y4, y5, n, rfl, by simpa [o0.1, o0.2] using hf 0 f0 rfl, by simpa [o1.1, o1.2] using hf 1 f1 rfl, by simpa [o2.1, o2.2] using hf 2 f2 rfl, by simpa [o3.1, o3.2] using hf 3 f3 rfl, by simpa [o4.1, o4.2] using hf 4 f4 rfl, by simpa [o5.1, o5.2] using hf 5 f5 rfl⟩
/-- Bytes in a field. -/
theorem open_bv7 {fuel : Nat} {v : Value} {x : DataW H × List MemPlace} (h : DataW.trod enc Try.prog w base (fun _ => true) held fuel 38 [v] = some x) :
    ∃ (A : Option Addr) (len cap : Nat) (xs : List UInt8), v = .slice A len cap ∧ Rd w A len (bv xs) ∧ len ≤ cap := by
  rcases open_ints Try.underlying38 Try.underlying5 (by kernel_rfl) h with ⟨hcs, _⟩ | ⟨x, l, c, zs, hcs, _, hl, hm, hz, _, hcell, hwz⟩
  · injection hcs with hcs
    subst hcs
    exact ⟨_, _, _, [], rfl, Rd.nil _ _, Nat.le_refl _⟩
  · injection hcs with hcs
    subst hcs
    obtain ⟨xs, h1, h2, h3, h4⟩ := rd_bytes (w := w) (a := some x) (len := l) (cap := c) (zs := zs) (.inr ⟨x, rfl, hl, hm, by simpa using hz, hcell, hwz⟩)
    exact ⟨_, _, _, xs, rfl, h1, h3⟩
/-- One call, out of its cells. -/
theorem open_op7 {fuel : Nat} {cs : List Value} {x : DataW H × List MemPlace} (h : DataW.trod enc Try.prog w base (fun _ => true) held fuel 40 cs = some x) : ∃ s : Op7, cs = s.cells ∧ s.is w := by
  obtain ⟨v0, v1, v2, v3, v4, v5, v6, v7, v8, v9, v10, v11, y0, y1, y2, y3, y4, y5, n, rfl, h0, h1, h2, h3, h4, h5⟩ := open_six7 Try.underlying40 (by kernel_rfl) ⟨rfl, by kernel_rfl⟩ ⟨rfl, by kernel_rfl⟩ ⟨rfl, by kernel_rfl⟩ ⟨rfl, by kernel_rfl⟩ ⟨rfl, by kernel_rfl⟩ ⟨rfl, by kernel_rfl⟩ h
  obtain ⟨a0, e0, _⟩ := DataW.trod_int Try.underlying3 h0
  obtain ⟨a1, e1, _, w1⟩ := DataW.trod_int Try.underlying3 h1
  obtain ⟨a2, e2, _⟩ := DataW.trod_int Try.underlying3 h2
  obtain ⟨s, es, hs⟩ := open_req7 h3
  obtain ⟨P, pl, pk, xs, rfl, hp, hk⟩ := open_bv7 h4
  obtain ⟨a5, e5, _, w5⟩ := DataW.trod_int Try.underlying3 h5
  injection e0 with e0
  injection e1 with e1
  injection e2 with e2
  injection e5 with e5
  subst e0 e1 e2 e5
  simp only [RqI.cells, rqv, List.cons.injEq, and_true] at es
  obtain ⟨rfl, rfl, rfl, rfl, rfl, rfl, rfl⟩ := es
  exact ⟨⟨a0, a1, a2, s.r, s.A, s.k, P, pl, pk, xs, a5⟩, rfl, ⟨hs, hp, hk, w1, w5⟩⟩
theorem open_script7 {b0 : Nat} {r : Reach} {v : Value} {d : DataW H} {p : List MemPlace} (hv : Value.okWide Try.prog w r b0 22 v) (h : DataW.Trod enc Try.prog w base (fun _ => true) held 22 v d p) :
    ∃ (B : Option Addr) (len cap : Nat) (xs : Nat → Op7), v = .slice B len cap ∧ ScrP7 w B len xs := by
  obtain ⟨a0, len0, cap0, rfl⟩ := okWide_slice Try.underlying22 hv
  obtain ⟨fuel, hf⟩ := h
  rcases open_slice Try.underlying22 hf with ⟨hcs, _⟩ | ⟨ad, len, cap, m, n, D, Pl, hcs, _, hl, hm, hmm, _, hi⟩
  · simp [Value.cells] at hcs
    obtain ⟨rfl, rfl, rfl⟩ := hcs
    exact ⟨none, 0, 0, fun _ => ⟨0, 0, 0, Rq.none, none, 0, none, 0, 0, [], 0⟩, rfl, fun h => absurd h (Nat.lt_irrefl 0)⟩
  · simp [Value.cells] at hcs
    obtain ⟨rfl, rfl, rfl⟩ := hcs
    simp at hmm
    have hC : Try.prog.cellsOf 40 = 12 := by kernel_rfl
    rw [hC] at hi
    have hx : ∀ i, i < len0 → ∃ s : Op7, (∀ j v, s.cells[j]? = some v → w.cell? (ad.add (i * 12 + j)) = some v) ∧ s.is w := by
      intro i hi'
      obtain ⟨cs', hc, ht⟩ := hi i (by omega)
      obtain ⟨s, rfl, hr⟩ := open_op7 ht
      obtain ⟨_, hcl, hat⟩ := World.cells?_some hc
      refine ⟨s, fun j v hv => ?_, hr⟩
      have hj : j < 12 := by
        have := (List.getElem?_eq_some_iff.1 hv).1
        simpa [Op7.cells] using this
      rw [← Go.Deep.add_add, hat j hj, hv]
    refine ⟨some ad, len0, cap0, fun i => if h : i < len0 then Classical.choose (hx i h) else ⟨0, 0, 0, Rq.none, none, 0, none, 0, 0, [], 0⟩, rfl, fun h0 => ?_⟩
    obtain ⟨b, o, sp⟩ := ad
    have h00 := (Classical.choose_spec (hx 0 h0)).1 0 _ rfl
    have hx0 : (⟨b, o, sp⟩ : Addr).add (0 * 12 + 0) = ⟨b, o, sp⟩ := by simp [Addr.add]
    rw [hx0] at h00
    have hs : sp = none := World.cell?_spot h00
    subst hs
    refine ⟨b, o, rfl, block_lt_of_cell h00, fun i hi' => ?_⟩
    simp only [dif_pos hi']
    have hsp := Classical.choose_spec (hx i hi')
    refine ⟨fun j v hv => ?_, hsp.2⟩
    have := hsp.1 j v hv
    rwa [add_at] at this
end
end Go.Proofs.Ytfpfijggmfeejaa
