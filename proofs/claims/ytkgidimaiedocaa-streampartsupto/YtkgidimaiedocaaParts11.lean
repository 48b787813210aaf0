/-
  What is proved here: for the law StreamParts: packets' bytes are told as the packets; a row of packets that grows beside a stream. No condition of its own.
-/
import Derived.Test.YtkgidimaiedocaaStMath
namespace Go.Proofs.Ytkgidimaiedocaa
set_option linter.unusedVariables false
set_option linter.unusedSimpArgs false
open Go.RowKit

theorem cut_pkts (most : Nat) : ∀ es : List Pk, (∀ p ∈ es, mayP p = true ∧ (layP p).length ≤ most) → cutAll (stNx most) (lysL es) = (es, [], false)
  | [], _ => cutAll_wait [] (stCuts most) (stCuts most).nil
  | a :: es, h => by
    have h1 := stNx_lay most a (h a (by simp)).1 (h a (by simp)).2 (lysL es)
    have h2 := cut_pkts most es (fun x hx => h x (by simp [hx]))
    have h3 : lysL (a :: es) = layP a ++ lysL es := rfl
    rw [h3, cutAll_cut _ (stCuts most) a _ h1, List.drop_left, h2]
theorem pkts_told (most : Nat) (es : List Pk) (h : ∀ p ∈ es, mayP p = true ∧ (layP p).length ≤ most) : toP most (lysL es) = es ∧ lfP most (lysL es) = [] ∧ brP most (lysL es) = false := by
  have hc := cut_pkts most es h
  have hb : brP most (lysL es) = false := by unfold brP; rw [hc]
  refine ⟨by unfold toP; rw [hc], ?_, hb⟩
  unfold lfP
  rw [hb, hc]
  rfl
theorem brP_pre (most : Nat) (a b : List UInt8) (h : brP most (a ++ b) = false) : brP most a = false := by
  cases hb : brP most a with
  | false => rfl
  | true =>
    have hk := cutAll_parts (stCuts most) a b
    have hb' : (cutAll (stNx most) a).2.2 = true := hb
    rw [hb'] at hk
    simp only [if_true] at hk
    have : brP most (a ++ b) = true := by unfold brP; rw [hk]
    rw [h] at this
    cases this
theorem lysL_len (M : Nat) : ∀ es : List Pk, (∀ p ∈ es, (layP p).length ≤ M) → (lysL es).length ≤ M * es.length
  | [], _ => Nat.zero_le _
  | a :: es, h => by
    have h1 := h a (by simp)
    have h2 := lysL_len M es (fun x hx => h x (by simp [hx]))
    show (layP a ++ lysL es).length ≤ _
    rw [List.length_append, List.length_cons, Nat.mul_succ]
    omega

/-- The second loop's state: what was fed, what is yet to be fed, what was told. -/
structure PS11 (w w3 : World) (g most : Nat) (X : List UInt8) (dn : List UInt8) (D : Option Addr) (ln dk : Nat) (ys : List UInt8) (A : Option Addr) (k : Nat) (T : Option Addr) (tk : Nat) (ts : List PkRow) (i : Nat) (wr : World) : Prop where
  all : dn ++ ys = X
  rd : Rd w3 D ln (bv ys)
  cap : ln ≤ dk
  inb : ∀ b o, D = some ⟨b, o, none⟩ → b ≠ g
  st : StA11 wr g most A k (lfP most dn) none
  aN : ∀ i, SoB A i → w3.heap.size ≤ i
  br : brP most dn = false
  aT : Off (SoB A) T
  told : ts.map PkRow.p = toP most dn
  own : wr.ownsRow w3.heap.size 35 18 (.slice T ts.length tk) ts.length (prVs ts)
  rows : ∀ r ∈ ts, r.is wr ∧ r.off (SoB A) ∧ r.off (SoB T) ∧ r.new w3
  cnt : i ≤ dn.length
  but : But (fun i => i = g) w3 wr
  bel : Below w.heap.size w wr
section
variable {w w3 : World} {g most : Nat} {X dn : List UInt8} {D : Option Addr} {ln dk : Nat} {ys : List UInt8} {A : Option Addr} {k : Nat} {T : Option Addr} {tk : Nat} {ts : List PkRow} {i : Nat} {wr : World}
theorem PS11.len (h : PS11 w w3 g most X dn D ln dk ys A k T tk ts i wr) : ys.length = ln := by rw [← bv_length]; exact h.rd.1
theorem PS11.prd (h : PS11 w w3 g most X dn D ln dk ys A k T tk ts i wr) {w' : World} (b : Below wr.heap.size wr w') : PRd w' T ts :=
  ⟨(ownS_rd h.own).keep b, fun r hr => (h.rows r hr).1.keep b⟩

/-- What is fed next breaks nothing. -/
theorem PS11.err (h : PS11 w w3 g most X dn D ln dk ys A k T tk ts i wr) (hX : brP most X = false) (N : Nat) : fdE11 most (lfP most dn) none (ys.take N) = 0 := by
  have hbr : brP most (dn ++ ys.take N) = false := brP_pre most _ (ys.drop N) (by rw [List.append_assoc, List.take_append_drop, h.all]; exact hX)
  obtain ⟨p1, p2, p3, p4⟩ := fd_parts11 most dn (ys.take N)
  have e0 : fdF11 most [] none dn = none := by
    show (if brP most dn = true then _ else _) = _
    rw [h.br]
    rfl
  have e1 : fdL11 most [] none dn = lfP most dn := rfl
  rw [e0, e1] at p2
  have h1 : erP most (dn ++ ys.take N) = 0 := by
    have := erP_zero most (dn ++ ys.take N)
    rw [hbr] at this
    simpa using this
  rw [← p2, h1]
/-- Feeding leaves what was told. -/
theorem PS11.own4 (h : PS11 w w3 g most X dn D ln dk ys A k T tk ts i wr) (hg : g < w3.heap.size) {w4 : World} (b4 : But (fun i => i = g ∨ SoB A i) wr w4) : w4.ownsRow w3.heap.size 35 18 (.slice T ts.length tk) ts.length (prVs ts) :=
  ownS_but h.own b4 fun b o e hb => by
    rcases hb with hb | hb
    · have := ownS_new h.own b o e; omega
    · exact h.aT b o e hb

/-- One part more. -/
theorem PS11.step (h : PS11 w w3 g most X dn D ln dk ys A k T tk ts i wr) (hX : brP most X = false) (hg : g < w3.heap.size) (hgw : w.heap.size ≤ g) (N : Nat) (hN1 : 1 ≤ N) (hN2 : N ≤ ln) {O : Option Addr} {ns : List PkRow} {A' : Option Addr} {k' : Nat} {w4 w5 : World}
    (t4 : ns.map PkRow.p = fdT11 most (lfP most dn) none (ys.take N)) (r4 : PRd w4 O ns) (n4 : ∀ r ∈ ns, r.new wr) (s4 : StA11 w4 g most A' k' (fdL11 most (lfP most dn) none (ys.take N)) (fdF11 most (lfP most dn) none (ys.take N))) (a4 : A' = A ∨ NewAt wr A') (f4 : ∀ r ∈ ns, r.off (SoB A')) (b4 : But (fun i => i = g ∨ SoB A i) wr w4)
    {T' : Option Addr} {tk' : Nat} (o5 : w5.ownsRow w3.heap.size 35 18 (.slice T' (ts.length + ns.length) tk') (ts.length + ns.length) (prVs ts ++ prVs ns)) (b5 : But (fun i => ∃ o, T = some ⟨i, o, none⟩) w4 w5) (hT : T' = T ∨ NewAt w4 T') :
    PS11 w w3 g most X (dn ++ ys.take N) (cutA D N dk) (ln - N) (dk - N) (ys.drop N) A' k' T' tk' (ts ++ ns) (i + 1) w5 := by
  have hl := h.len
  have hall : (dn ++ ys.take N) ++ ys.drop N = X := by rw [List.append_assoc, List.take_append_drop]; exact h.all
  have hbr : brP most (dn ++ ys.take N) = false := brP_pre most _ (ys.drop N) (by rw [hall]; exact hX)
  obtain ⟨p1, p2, p3, p4⟩ := fd_parts11 most dn (ys.take N)
  have e0 : fdF11 most [] none dn = none := by
    show (if brP most dn = true then _ else _) = _
    rw [h.br]
    rfl
  have e1 : fdL11 most [] none dn = lfP most dn := rfl
  have e2 : fdT11 most [] none dn = toP most dn := rfl
  rw [e0, e1] at p1 p2 p3
  rw [e2] at p1
  have hbr2 : brP most (lfP most dn ++ ys.take N) = false := by
    have h2 : erP most (lfP most dn ++ ys.take N) = 0 := h.err hX N
    rw [← erP_zero, h2]
    rfl
  have hF : fdF11 most (lfP most dn) none (ys.take N) = none := by
    show (if brP most (lfP most dn ++ ys.take N) = true then _ else _) = _
    rw [hbr2]
    rfl
  rw [hF, ← p3] at s4
  have hw3 : w3.heap.size ≤ wr.heap.size := h.but.size
  have hz4 := b4.size
  have hTn : ∀ i, SoB T i → w3.heap.size ≤ i := fun i ⟨o, e⟩ => ownS_new h.own i o e
  have hTlt : ∀ i, SoB T i → i < wr.heap.size := fun i ⟨o, e⟩ => ownS_lt h.own i o e
  have aT' : Off (SoB A') T := by
    intro b o e hb
    rcases a4 with rfl | a4
    · exact h.aT b o e hb
    · obtain ⟨o', e'⟩ := hb
      have := a4 b o' e'
      have := hTlt b ⟨o, e⟩
      omega
  have hA'l : ∀ i, SoB A' i → i < w4.heap.size := fun i ⟨o, e⟩ => own_lt s4.own i o e
  have hA'T : Off (SoB T) A' := fun b o e ⟨o', e'⟩ => aT' b o' e' ⟨o, e⟩
  have hb4 : ∀ r ∈ ts, r.off fun i => i = g ∨ SoB A i := by
    intro r hr
    obtain ⟨q1, q2, q3, q4⟩ := h.rows r hr
    have hgo : r.off fun i => i = g := q4.high fun i e => by omega
    exact ⟨fun hn b o e hb => by
      rcases hb with hb | hb
      · exact hgo.1 hn b o e hb
      · exact q2.1 hn b o e hb, fun hn b o e hb => by
      rcases hb with hb | hb
      · exact hgo.2 hn b o e hb
      · exact q2.2 hn b o e hb⟩
  have keyT : ∀ r : PkRow, r.is w4 → r.off (SoB T) → r.off (SoB T') := by
    intro r h1 h2
    rcases hT with rfl | hT
    · exact h2
    · exact h1.low fun i ⟨o, e⟩ => hT i o e
  refine ⟨hall, ?_, by have := h.cap; omega, ?_, ?_, ?_, hbr, ?_, ?_, ?_, ?_, ?_, ?_, ?_⟩
  · rw [← bv_drop]
    exact h.rd.tail N dk hN2 h.cap
  · intro b o e
    have hin : InB11 D (cutA D N dk) := (InB11.refl D).cut N dk
    obtain ⟨a', x1, x2⟩ := hin _ e
    obtain ⟨b', o', s'⟩ := a'
    have hb : b' = b := x2
    subst hb
    obtain ⟨b0, o0, y0, _, _⟩ := h.rd.at_ (k := 0) (by omega)
    rw [y0] at x1
    injection x1 with x1
    injection x1 with z1 z2 z3
    subst z1 z2 z3
    exact h.inb _ _ y0
  · exact s4.but b5 (fun ⟨o, e⟩ => by have := hTn g ⟨o, e⟩; omega) hA'T
  · intro i hi
    rcases a4 with rfl | a4
    · exact h.aN i hi
    · obtain ⟨o, e⟩ := hi
      have := a4 i o e
      omega
  · rcases hT with rfl | hT
    · exact aT'
    · intro b o e hb
      have := hT b o e
      have := hA'l b hb
      omega
  · rw [List.map_append, h.told, t4, p1]
  · rw [List.length_append, prVs_append]
    exact o5
  · intro r hr
    rcases List.mem_append.1 hr with hr | hr
    · obtain ⟨q1, q2, q3, q4⟩ := h.rows r hr
      have i4 : r.is w4 := q1.but b4 (hb4 r hr)
      refine ⟨i4.but b5 q3, ?_, keyT r i4 q3, q4⟩
      rcases a4 with rfl | a4
      · exact q2
      · exact q1.low fun i ⟨o, e⟩ => a4 i o e
    · have i4 : r.is w4 := r4.2 r hr
      have n := n4 r hr
      have o4 : r.off (SoB T) := n.high hTlt
      exact ⟨i4.but b5 o4, f4 r hr, keyT r i4 o4, n.old hw3⟩
  · rw [List.length_append, List.length_take]
    have := h.cnt
    omega
  · exact (h.but.trans b4 (fun j hj e => by
      rcases e with e | e
      · exact e
      · have := h.aN j e; omega)).trans b5 (fun j hj e => by have := hTn j e; omega)
  · have hw : w.heap.size ≤ wr.heap.size := h.bel.size
    have hwg : w.heap.size ≤ w3.heap.size := by omega
    exact But.below (But.below h.bel b4 (fun j e => by
      rcases e with e | e
      · omega
      · have := h.aN j e; omega) hw) b5 (fun j e => by have := hTn j e; omega) (by omega)
end

end Go.Proofs.Ytkgidimaiedocaa
