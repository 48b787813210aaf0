/-
  What is proved here: two rows of rows that grow beside a line (what was told, what was wanted) stay as they are while the line takes bytes. No condition of its own.
-/
import Derived.Test.YtkbombdhdgdpnaaRtu4
namespace Go.Proofs.Ytkbombdhdgdpnaa
set_option linter.unusedVariables false
set_option linter.unusedSimpArgs false
open Go.RowKit

theorem sl_info : (Try.prog.info? 22).map (fun i => (i.zero, i.size, i.bytes)) = some (some (.slice none 0 0), 1, 24) := by kernel_rfl
/-- The slice's own block. -/
def bS (A : Option Addr) : Nat → Prop := fun i => ∃ o, A = some ⟨i, o, none⟩
/-- The slice lies below. -/
def Lo (w : World) (A : Option Addr) : Prop := ∀ b o, A = some ⟨b, o, none⟩ → b < w.heap.size
theorem Lo.on {w w' : World} {A : Option Addr} (h : Lo w A) (hs : w.heap.size ≤ w'.heap.size) : Lo w' A := fun b o e => Nat.lt_of_lt_of_le (h b o e) hs
theorem off_new {S : Nat → Prop} {w : World} {A : Option Addr} (hS : ∀ i, S i → i < w.heap.size) (h : NewAt w A) : Off S A := fun b o e hs => by have := hS b hs; have := h b o e; omega
theorem off_lo {w : World} {A B : Option Addr} (h : NewAt w A) (hB : Lo w B) : Off (bS A) B := fun b o e ⟨o', e'⟩ => by have := h b o' e'; have := hB b o e; omega
theorem off_sym {A B : Option Addr} (h : Off (bS A) B) : Off (bS B) A := fun b o e ⟨o', e'⟩ => h b o' e' ⟨o, e⟩
theorem off_ln {g : Nat} {A B : Option Addr} (h : Off (lnS g A) B) : Off (bS B) A := fun b o e ⟨o', e'⟩ => h b o' e' (Or.inr ⟨o, e⟩)
theorem off_g {g : Nat} {A B : Option Addr} (h : Off (lnS g A) B) : ¬ bS B g := fun ⟨o, e⟩ => h g o e (Or.inl rfl)
theorem off_step {g : Nat} {A A' B : Option Addr} {w : World} (h : Off (lnS g A) B) (ha : A' = A ∨ NewAt w A') (hB : Lo w B) : Off (lnS g A') B := by
  intro b o e hs
  rcases hs with rfl | ⟨o', e'⟩
  · exact h _ _ e (Or.inl rfl)
  · rcases ha with rfl | ha
    · exact h _ _ e (Or.inr ⟨o', e'⟩)
    · have := ha _ _ e'
      have := hB _ _ e
      omega
theorem off_stepB {A A' B : Option Addr} {w : World} (h : Off (bS A) B) (ha : A' = A ∨ NewAt w A') (hB : Lo w B) : Off (bS A') B := by
  rcases ha with rfl | ha
  · exact h
  · exact off_lo ha hB

/-- A row that was told. -/
structure TR (wr : World) (S : Nat → Prop) (T Wa : Option Addr) (r : RowE) : Prop where
  is : r.is wr
  off : Off S r.A
  ot : Off (bS T) r.A
  ow : Off (bS Wa) r.A
  lo : Lo wr r.A
/-- What was told and what was wanted, beside a line. -/
structure TW (w wr : World) (S : Nat → Prop) (T : Option Addr) (tn tc : Nat) (trs : List RowE) (Wa : Option Addr) (wn wk : Nat) (wrs rs : List RowE) : Prop where
  to : wr.ownsRow w.heap.size 22 1 (.slice T tn tc) tn (trs.map RowE.v)
  wo : wr.ownsRow w.heap.size 22 1 (.slice Wa wn wk) wn (wrs.map RowE.v)
  tr : ∀ r ∈ trs, TR wr S T Wa r
  ww : ∀ r ∈ wrs, r ∈ rs
  ts : Off S T
  ws : Off S Wa
  tw : Off (bS Wa) T

section
variable {w wr w2 : World} {S : Nat → Prop} {T : Option Addr} {tn tc : Nat} {trs : List RowE} {Wa : Option Addr} {wn wk : Nat} {wrs rs : List RowE}
theorem TW.lt (h : TW w wr S T tn tc trs Wa wn wk wrs rs) : Lo wr T := fun b o e => own_lt h.to b o e
theorem TW.lw (h : TW w wr S T tn tc trs Wa wn wk wrs rs) : Lo wr Wa := fun b o e => own_lt h.wo b o e
theorem TW.keep (h : TW w wr S T tn tc trs Wa wn wk wrs rs) (b : Below wr.heap.size wr w2) : TW w w2 S T tn tc trs Wa wn wk wrs rs :=
  ⟨own_keep h.to b, own_keep h.wo b, fun r hr => let k := h.tr r hr; ⟨Rd.keep k.is b, k.off, k.ot, k.ow, k.lo.on b.size⟩, h.ww, h.ts, h.ws, h.tw⟩
/-- The line took bytes. -/
theorem TW.feed {g : Nat} {A A' : Option Addr} (h : TW w wr (lnS g A) T tn tc trs Wa wn wk wrs rs) (b : But (lnS g A) wr w2) (ha : A' = A ∨ NewAt wr A') : TW w w2 (lnS g A') T tn tc trs Wa wn wk wrs rs :=
  ⟨own_but h.to b h.ts, own_but h.wo b h.ws, fun r hr => let k := h.tr r hr; ⟨Rd.but k.is b k.off, off_step k.off ha k.lo, k.ot, k.ow, k.lo.on b.size⟩, h.ww, off_step h.ts ha h.lt, off_step h.ws ha h.lw, h.tw⟩
/-- Rows were told. -/
theorem TW.tell {T' : Option Addr} {m c' : Nat} {ns : List RowE} (h : TW w wr S T tn tc trs Wa wn wk wrs rs) (hn : ∀ r ∈ ns, TR wr S T Wa r) (hS : ∀ i, S i → i < wr.heap.size)
    (o : w2.ownsRow w.heap.size 22 1 (.slice T' (tn + m) c') (tn + m) (trs.map RowE.v ++ ns.map RowE.v)) (b : But (bS T) wr w2) (ht : T' = T ∨ NewAt wr T') : TW w w2 S T' (tn + m) c' (trs ++ ns) Wa wn wk wrs rs := by
  refine ⟨by rw [List.map_append]; exact o, own_but h.wo b (off_sym h.tw), ?_, h.ww, ?_, h.ws, ?_⟩
  · intro r hr
    have k : TR wr S T Wa r := by
      rcases List.mem_append.1 hr with hr | hr
      · exact h.tr r hr
      · exact hn r hr
    exact ⟨Rd.but k.is b k.ot, k.off, off_stepB k.ot ht k.lo, k.ow, k.lo.on b.size⟩
  · rcases ht with rfl | ht
    · exact h.ts
    · exact off_new hS ht
  · rcases ht with rfl | ht
    · exact h.tw
    · exact off_sym (off_lo ht h.lw)
/-- A row was wanted. -/
theorem TW.want {W' : Option Addr} {m c' : Nat} {ns : List RowE} (h : TW w wr S T tn tc trs Wa wn wk wrs rs) (hn : ∀ r ∈ ns, r ∈ rs) (hS : ∀ i, S i → i < wr.heap.size)
    (o : w2.ownsRow w.heap.size 22 1 (.slice W' (wn + m) c') (wn + m) (wrs.map RowE.v ++ ns.map RowE.v)) (b : But (bS Wa) wr w2) (ht : W' = Wa ∨ NewAt wr W') : TW w w2 S T tn tc trs W' (wn + m) c' (wrs ++ ns) rs := by
  refine ⟨own_but h.to b h.tw, by rw [List.map_append]; exact o, ?_, ?_, h.ts, ?_, ?_⟩
  · intro r hr
    have k := h.tr r hr
    exact ⟨Rd.but k.is b k.ow, k.off, k.ot, off_stepB k.ow ht k.lo, k.lo.on b.size⟩
  · intro r hr
    rcases List.mem_append.1 hr with hr | hr
    · exact h.ww r hr
    · exact hn r hr
  · rcases ht with rfl | ht
    · exact h.ws
    · exact off_new hS ht
  · exact off_stepB h.tw ht h.lt
end

/-- One row was wanted. -/
theorem wantOne {w wr w2 : World} {S : Nat → Prop} {T : Option Addr} {tn tc : Nat} {trs : List RowE} {Wa : Option Addr} {wn wk : Nat} {wrs rs : List RowE} {W' : Option Addr} {c' m : Nat} {rA : Option Addr} {rk : Nat} {rx : List UInt8} (h : TW w wr S T tn tc trs Wa wn wk wrs rs) (hn : RowE.mk rA rk rx ∈ rs) (hm : rx.length = m) (hS : ∀ i, S i → i < wr.heap.size)
    (o : w2.ownsRow w.heap.size 22 1 (.slice W' (wn + 1) c') (wn + 1) (wrs.map RowE.v ++ [.slice rA m rk])) (b : But (bS Wa) wr w2) (ht : W' = Wa ∨ NewAt wr W') : TW w w2 S T tn tc trs W' (wn + 1) c' (wrs ++ [⟨rA, rk, rx⟩]) rs := by
  subst hm
  exact h.want (ns := [⟨rA, rk, rx⟩]) (by intro r hr; simp at hr; subst hr; exact hn) hS o b ht
theorem TW.told {w wr w2 : World} {g : Nat} {A A' : Option Addr} {k : Nat} {came : List UInt8} {last gap tick : Int} {T : Option Addr} {tn tc : Nat} {trs : List RowE} {Wa : Option Addr} {wn wk : Nat} {wrs rs ns : List RowE} {O : Option Addr} {n : Nat}
    (h : TW w wr (lnS g A) T tn tc trs Wa wn wk wrs rs) (l : LnA wr g A k came last gap tick) (b : But (lnS g A) wr w2) (r : RRd w2 O n ns) (f : ∀ r ∈ ns, Off (lnS g A') r.A) (a : ∀ r ∈ ns, r.A = A) : ∀ r ∈ ns, TR w2 (lnS g A') T Wa r := by
  intro x hx
  refine ⟨r.2 x hx, f x hx, ?_, ?_, ?_⟩
  · rw [a x hx]
    exact off_ln h.ts
  · rw [a x hx]
    exact off_ln h.ws
  · rw [a x hx]
    exact fun b' o' e' => Nat.lt_of_lt_of_le (own_lt l.own b' o' e') b.size
theorem LnI.off_ {v w w' : World} {g : Nat} {A B : Option Addr} {k : Nat} {came : List UInt8} {last gap tick : Int} (h : LnI v w g A k came last gap tick) (hB : Off (lnS g A) B) (hn : NewAt v B) (b : But (bS B) w w') : LnI v w' g A k came last gap tick :=
  ⟨h.ln.off (bS B) (off_g hB) (off_ln hB) b, h.gn, h.an, b.below h.be (fun i ⟨o, e⟩ => hn i o e) h.be.size⟩

end Go.Proofs.Ytkbombdhdgdpnaa
