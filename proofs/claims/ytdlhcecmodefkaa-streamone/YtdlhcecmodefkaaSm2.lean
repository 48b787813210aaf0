/-
  What is proved here: packets in rows (PkRow, PRd), and what stream's cut returns: the packets, and what is left. Condition: at most 65535 bytes.
-/
import Derived.Test.YtdlhcecmodefkaaSm1
namespace Go.Proofs.Ytdlhcecmodefkaa
set_option linter.unusedVariables false
set_option linter.unusedSimpArgs false
open Go.RowKit

/-- A lies in C's block. -/
def InB11 (C A : Option Addr) : Prop := ∀ a, A = some a → ∃ a', C = some a' ∧ a'.block = a.block
theorem InB11.refl (C : Option Addr) : InB11 C C := fun a e => ⟨a, e, rfl⟩
theorem add_block11 (a : Addr) (j : Nat) : (a.add j).block = a.block := by
  unfold Addr.add
  by_cases h : j = 0 <;> simp [h]
theorem InB11.cut {C A : Option Addr} (h : InB11 C A) (lo k : Nat) : InB11 C (cutA A lo k) := by
  intro a e
  unfold cutA at e
  split at e
  · exact h a e
  · obtain ⟨a', e1, rfl⟩ := Option.map_eq_some_iff.1 e
    obtain ⟨c, f1, f2⟩ := h a' e1
    exact ⟨c, f1, by rw [f2, add_block11]⟩
def slLen11 : Value → Nat
  | .slice _ n _ => n
  | _ => 0
/-- The blocks of a slice. -/
def SoB (O : Option Addr) : Nat → Prop := fun i => ∃ o, O = some ⟨i, o, none⟩

/-- A packet in memory. -/
structure PkRow where
  p : Pk
  C : Option Addr
  nc : Nat
  kc : Nat
  S : Option Addr
  ns : Nat
  ks : Nat
def PkRow.vs (r : PkRow) : List Value := pkVs r.p r.C r.nc r.kc r.S r.ns r.ks
def PkRow.A (r : PkRow) : Value := pkA r.p r.C r.nc r.kc r.S r.ns r.ks
def PkRow.is (w : World) (r : PkRow) : Prop := PkM w r.p r.C r.nc r.kc r.S r.ns r.ks
def PkRow.off (T : Nat → Prop) (r : PkRow) : Prop := (0 < r.nc → Off T r.C) ∧ (0 < r.ns → Off T r.S)
def PkRow.new (w : World) (r : PkRow) : Prop := NewAt w r.C ∧ NewAt w r.S
def prVs (rs : List PkRow) : List Value := rs.flatMap PkRow.vs
theorem PkRow.vs_len (r : PkRow) : r.vs.length = 18 := rfl
theorem prVs_len (rs : List PkRow) : (prVs rs).length = rs.length * 18 := by
  induction rs with
  | nil => rfl
  | cons r rs ih =>
    rw [prVs, List.flatMap_cons, List.length_append, PkRow.vs_len, ← prVs, ih, List.length_cons]
    omega
theorem prVs_append (a b : List PkRow) : prVs (a ++ b) = prVs a ++ prVs b := List.flatMap_append
theorem prVs_snoc (a : List PkRow) (r : PkRow) : prVs (a ++ [r]) = prVs a ++ r.vs := by rw [prVs_append]; simp [prVs]
theorem prVs_get : ∀ (rs : List PkRow) (i j : Nat) (h : i < rs.length), j < 18 → (prVs rs)[i * 18 + j]? = (rs[i]).vs[j]?
  | [], _, _, h, _ => by simp at h
  | r :: rs, 0, j, _, hj => by
    rw [prVs, List.flatMap_cons, List.getElem?_append_left (by rw [PkRow.vs_len]; omega)]
    simp
  | r :: rs, i + 1, j, h, hj => by
    have := prVs_get rs i j (by simpa using h) hj
    rw [prVs, List.flatMap_cons, List.getElem?_append_right (by rw [PkRow.vs_len]; omega), PkRow.vs_len, ← prVs, show (i + 1) * 18 + j - 18 = i * 18 + j by omega, this]
    simp
theorem PkRow.one (r : PkRow) : ∀ u ∈ r.vs, u.oneCell' = true := by
  intro u hu
  simp [PkRow.vs, pkVs] at hu
  rcases hu with rfl | rfl | rfl | rfl | rfl | rfl | rfl | rfl | rfl | rfl | rfl | rfl | rfl | rfl | rfl | rfl | rfl | rfl <;> rfl
theorem PkRow.is.keep {w w' : World} {r : PkRow} (h : r.is w) (b : Below w.heap.size w w') : r.is w' := PkM.keep h b
theorem PkRow.is.but {T : Nat → Prop} {w w' : World} {r : PkRow} (h : r.is w) (b : But T w w') (o : r.off T) : r.is w' := by
  obtain ⟨m1, m2, m3, m4, m5, m6⟩ := h
  refine ⟨m1, m2, ⟨m3.1, fun hn => (m3.but b (o.1 hn)).2 hn⟩, m4, m5, ⟨m6.1, fun hn => (m6.but b (o.2 (by omega))).2 hn⟩⟩
theorem PkRow.is.low {w : World} {r : PkRow} (h : r.is w) {T : Nat → Prop} (hT : ∀ i, T i → w.heap.size ≤ i) : r.off T := by
  obtain ⟨m1, m2, m3, m4, m5, m6⟩ := h
  constructor
  · intro hn b o e ht
    obtain ⟨b', o', e', hl, -⟩ := m3.at_ hn
    rw [e] at e'
    injection e' with e'
    injection e' with e1
    have := hT b ht
    omega
  · intro hn b o e ht
    obtain ⟨b', o', e', hl, -⟩ := m6.at_ (k := 0) (by omega)
    rw [e] at e'
    injection e' with e'
    injection e' with e1
    have := hT b ht
    omega
theorem PkRow.new.high {w : World} {r : PkRow} (h : r.new w) {T : Nat → Prop} (hT : ∀ i, T i → i < w.heap.size) : r.off T :=
  ⟨fun _ b o e ht => by have := h.1 b o e; have := hT b ht; omega, fun _ b o e ht => by have := h.2 b o e; have := hT b ht; omega⟩
theorem PkRow.new.old {w w' : World} {r : PkRow} (h : r.new w') (hs : w.heap.size ≤ w'.heap.size) : r.new w := ⟨h.1.old hs, h.2.old hs⟩
/-- A row of packets reads so. -/
def PRd (w : World) (O : Option Addr) (rs : List PkRow) : Prop := Rd w O (rs.length * 18) (prVs rs) ∧ ∀ r ∈ rs, r.is w
theorem PRd.keep {w w' : World} {O : Option Addr} {rs : List PkRow} (h : PRd w O rs) (b : Below w.heap.size w w') : PRd w' O rs := ⟨h.1.keep b, fun r hr => (h.2 r hr).keep b⟩
theorem PRd.nil (w : World) : PRd w none [] := ⟨Rd.nil _ _, fun _ h => by cases h⟩
theorem pkt_info : (Try.prog.info? 27).map (fun i => (i.zero, i.size, i.bytes)) = some (some (pkA (zeroP 0) none 0 0 none 0 0), 18, 200) := by kernel_rfl

/-- What the loop keeps. -/
structure CutSt11 (most : Nat) (C : Option Addr) (n c : Nat) (xs : List UInt8) (w : World) (D : Option Addr) (dn dk : Nat) (ys : List UInt8) (O : Option Addr) (ok : Nat) (rs : List PkRow) (wr : World) : Prop where
  cap : dn ≤ dk
  rd : Rd w D dn (bv ys)
  inb : InB11 C D
  told : toP most xs = rs.map PkRow.p ++ toP most ys
  rest : (cutAll (stNx most) xs).2 = (cutAll (stNx most) ys).2
  rows : ∀ r ∈ rs, r.is wr ∧ r.new w ∧ r.off (SoB O)
  own : wr.ownsRow w.heap.size 27 18 (.slice O rs.length ok) rs.length (prVs rs)
  few : rs.length + dn ≤ n
  first : rs = [] → D = C ∧ dn = n ∧ dk = c
  bel : Below w.heap.size w wr
section
variable {most : Nat} {C : Option Addr} {n c : Nat} {xs : List UInt8} {w : World} {D : Option Addr} {dn dk : Nat} {ys : List UInt8} {O : Option Addr} {ok : Nat} {rs : List PkRow} {wr : World}
theorem CutSt11.len (h : CutSt11 most C n c xs w D dn dk ys O ok rs wr) : ys.length = dn := by rw [← bv_length]; exact h.rd.1
theorem CutSt11.prd (h : CutSt11 most C n c xs w D dn dk ys O ok rs wr) {w' : World} (b : Below wr.heap.size wr w') : PRd w' O rs :=
  ⟨(ownS_rd h.own).keep b, fun r hr => (h.rows r hr).1.keep b⟩
theorem CutSt11.new (h : CutSt11 most C n c xs w D dn dk ys O ok rs wr) : NewAt w O := fun b o e => ownS_new h.own b o e
/-- One packet more. -/
theorem CutSt11.step (h : CutSt11 most C n c xs w D dn dk ys O ok rs wr) (r : PkRow) (N : Nat) (hn : stNx most ys = .cut r.p N) (w3 : World) (b3 : Below wr.heap.size wr w3) (hr : r.is w3) (hrn : r.new wr) (O' : Option Addr) (ok' : Nat) (w' : World)
    (own' : w'.ownsRow w.heap.size 27 18 (.slice O' (rs.length + 1) ok') (rs.length + 1) (prVs rs ++ r.vs)) (b4 : But (SoB O) w3 w') (h4 : O' = O ∨ NewAt w3 O') :
    CutSt11 most C n c xs w (cutA D N dk) (dn - N) (dk - N) (ys.drop N) O' ok' (rs ++ [r]) w' := by
  have hl := h.len
  have hp := (stCuts most).pos _ _ _ hn
  have hcut := cutAll_cut ys (stCuts most) r.p N hn
  have hOlt : ∀ i, SoB O i → i < wr.heap.size := fun i ⟨o, e⟩ => ownS_lt h.own i o e
  have hOnew : ∀ i, SoB O i → w.heap.size ≤ i := fun i ⟨o, e⟩ => ownS_new h.own i o e
  refine ⟨?_, ?_, h.inb.cut _ _, ?_, ?_, ?_, ?_, ?_, ?_, ?_⟩
  · have := h.cap; omega
  · rw [← bv_drop]
    exact h.rd.tail N dk (by omega) h.cap
  · rw [h.told]
    unfold toP
    rw [hcut, List.map_append, List.append_assoc]
    rfl
  · rw [h.rest, hcut]
  · intro q hq
    rw [List.mem_append] at hq
    rcases hq with hq | hq
    · obtain ⟨a1, a2, a3⟩ := h.rows q hq
      refine ⟨(a1.keep b3).but b4 a3, a2, ?_⟩
      rcases h4 with rfl | h4
      · exact a3
      · exact a1.low fun i ⟨o, e⟩ => Nat.le_trans b3.size (h4 i o e)
    · simp at hq
      subst hq
      refine ⟨hr.but b4 (hrn.high hOlt), hrn.old h.bel.size, ?_⟩
      rcases h4 with rfl | h4
      · exact hrn.high hOlt
      · exact hr.low fun i ⟨o, e⟩ => h4 i o e
  · rw [prVs_snoc, List.length_append]
    exact own'
  · have := h.few
    rw [List.length_append]
    show rs.length + 1 + (dn - N) ≤ n
    omega
  · intro e
    simp at e
  · exact But.below (below_on h.bel b3) b4 hOnew (Nat.le_trans h.bel.size b3.size)
theorem CutSt11.wait (h : CutSt11 most C n c xs w D dn dk ys O ok rs wr) (hn : stNx most ys = .wait) : rs.map PkRow.p = toP most xs ∧ lfP most xs = ys ∧ erP most xs = 0 ∧ brP most xs = false := by
  have hc := cutAll_wait ys (stCuts most) hn
  have h1 := h.told
  have h2 := h.rest
  rw [hc] at h2
  have hb : brP most xs = false := by unfold brP; rw [h2]
  unfold toP at h1 ⊢
  rw [hc] at h1
  refine ⟨by rw [h1, List.append_nil], ?_, ?_, hb⟩
  · unfold lfP
    rw [hb, h2]
    rfl
  · unfold erP
    rw [hb]
    rfl
theorem CutSt11.bad (h : CutSt11 most C n c xs w D dn dk ys O ok rs wr) (hn : stNx most ys = .bad) : rs.map PkRow.p = toP most xs ∧ lfP most xs = [] ∧ erP most xs = stC most ys ∧ brP most xs = true := by
  have hc := cutAll_bad ys (stCuts most) hn
  have h1 := h.told
  have h2 := h.rest
  rw [hc] at h2
  have hb : brP most xs = true := by unfold brP; rw [h2]
  unfold toP at h1 ⊢
  rw [hc] at h1
  refine ⟨by rw [h1, List.append_nil], ?_, ?_, hb⟩
  · unfold lfP
    rw [hb]
    rfl
  · unfold erP
    rw [hb, h2]
    rfl
end

end Go.Proofs.Ytdlhcecmodefkaa
