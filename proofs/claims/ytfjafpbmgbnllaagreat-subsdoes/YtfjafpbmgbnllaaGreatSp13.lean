/-
  What is proved here: the program's index of layer 13 and the document's, side by side, new since a world; what a call of the one leaves of the other. Conditions: texts of at most 65535 bytes; at most a million calls.
-/
import Derived.Test.YtfjafpbmgbnllaaGreatSp11
import Derived.Test.YtfjafpbmgbnllaaGreatSr5
namespace Go.Proofs.YtfjafpbmgbnllaaGreat
set_option linter.unusedVariables false
set_option linter.unusedSimpArgs false
open Go.RowKit Go.Maps

theorem drop_had (es : List SE) (c f : List UInt8) (hf : f ≠ []) : decide ((dropE es c f).length < es.length) = hadE es c f := by
  rw [Bool.eq_iff_iff, decide_eq_true_iff, hadE_iff]
  unfold dropE
  rw [List.length_filter_lt_length_iff_exists]
  constructor
  · rintro ⟨e, he, h⟩
    refine ⟨e, he, ?_⟩
    by_cases h1 : e.c = c <;> by_cases h2 : e.f = f <;> simp [keepE, hf, h1, h2] at h ⊢
  · rintro ⟨e, he, h1, h2⟩
    exact ⟨e, he, by simp [keepE, hf, h1, h2]⟩
/-- Both; the blocks of T are neither's. -/
structure XrM (T : Nat → Prop) (v w : World) (m : Px) (g : Nat) (fs : List SE) (A : Option Addr) (k : Nat) : Prop where
  p : PvA v w m
  r : RiA w g v.heap.size fs A k
  mg : ¬ m.S g
  mA : Off m.S A
  vg : v.heap.size ≤ g
  t : ∀ i, T i → ¬ m.S i ∧ i ≠ g ∧ ¬ SoE A i
def Xr (T : Nat → Prop) (v w : World) (B : Nat) (es : List SE) (K g : Nat) (fs : List SE) (A : Option Addr) (k : Nat) : Prop := ∃ m, XrM T v w m g fs A k ∧ m.B = B ∧ ses m.L = es ∧ m.K ≤ K
def nilT : Nat → Prop := fun _ => False
section
variable {T : Nat → Prop} {v w w' : World} {m m' : Px} {B K g k k' : Nat} {es fs fs' : List SE} {A A' : Option Addr}
theorem XrM.stepP (h : XrM T v w m g fs A k) (hT : ∀ i, T i → i < w.heap.size) (q : PxA w' m') (hb : But m.S w w') (hs : ∀ i, m'.S i → m.S i ∨ w.heap.size ≤ i) : XrM T v w' m' g fs A k ∧ But (fun i => ¬ T i) w w' := by
  refine ⟨⟨h.p.step q hb hs, h.r.but hb h.mg h.mA, fun hm => ?_, fun b o e hm => ?_, h.vg, fun i hi => ⟨fun hm => ?_, (h.t i hi).2⟩⟩, hb.wide fun i hi ht => (h.t i ht).1 hi⟩
  · rcases hs g hm with h1 | h1
    · exact h.mg h1
    · have := h.r.blk.lt; omega
  · rcases hs b hm with h1 | h1
    · exact h.mA b o e h1
    · have := ownS_lt h.r.own b o e; omega
  · rcases hs i hm with h1 | h1
    · exact (h.t i hi).1 h1
    · have := hT i hi; omega
theorem XrM.stepD (h : XrM T v w m g fs A k) (hT : ∀ i, T i → i < w.heap.size) (q : RiA w' g v.heap.size fs' A' k') (hA : A' = A ∨ NewAt w A') (hb : But (fun i => i = g ∨ SoE A i) w w') : XrM T v w' m g fs' A' k' ∧ But (fun i => ¬ T i) w w' := by
  have hold : ∀ i, m.S i → ¬ (i = g ∨ SoE A i) := fun i hi hx => by
    rcases hx with rfl | ⟨o, e⟩
    · exact h.mg hi
    · exact h.mA i o e hi
  refine ⟨⟨⟨h.p.a.but hb hold, h.p.new, But.below h.p.bel hb (fun i hx => ?_) h.p.bel.size⟩, q, h.mg, ?_, h.vg, fun i hi => ⟨(h.t i hi).1, (h.t i hi).2.1, ?_⟩⟩, hb.wide fun i hx ht => ?_⟩
  · rcases hx with rfl | ⟨o, e⟩
    · exact h.vg
    · exact ownS_new h.r.own i o e
  · rcases hA with rfl | hA
    · exact h.mA
    · exact fun b o e hm => by have := hA b o e; have := h.p.a.lt hm; omega
  · rcases hA with rfl | hA
    · exact (h.t i hi).2.2
    · exact fun ⟨o, e⟩ => by have := hA i o e; have := hT i hi; omega
  · rcases hx with rfl | hx
    · exact (h.t _ ht).2.1 rfl
    · exact (h.t i ht).2.2 hx
theorem Xr.start (h : Xs v w B es K) : Xr nilT v (w.alloc (.cells #[.slice none 0 0] 29)) B es K w.heap.size [] none 0 := by
  obtain ⟨m, h1, h2⟩ := h
  have b : Below w.heap.size w (w.alloc (.cells #[.slice none 0 0] 29)) := (Below.refl _ _).alloc (Nat.le_refl _) _
  exact ⟨m, ⟨h1.keep b, ⟨Blk.new w 29 [.slice none 0 0], World.ownsRow_nil _ _ _ _, (fun _ _ e => by cases e)⟩, (fun hm => by have := h1.a.lt hm; omega), (fun _ _ e => by cases e), h1.bel.size, fun i hi => False.elim hi⟩, h2⟩
theorem Xr.keep (h : Xr T v w B es K g fs A k) (b : Below w.heap.size w w') : Xr T v w' B es K g fs A k := by
  obtain ⟨m, h1, h2⟩ := h
  exact ⟨m, ⟨h1.p.keep b, h1.r.keep b, h1.mg, h1.mA, h1.vg, h1.t⟩, h2⟩
theorem Xr.left (h : Xr T v w B es K g fs A k) : Xs v w B es K := by
  obtain ⟨m, h1, h2⟩ := h
  exact ⟨m, h1.p, h2⟩
theorem Xr.doc (h : Xr T v w B es K g fs A k) : RiA w g v.heap.size fs A k := by
  obtain ⟨m, h1, h2⟩ := h
  exact h1.r
theorem Xr.bel (h : Xr T v w B es K g fs A k) : Below v.heap.size v w := h.left.bel
theorem Xr.more (h : Xr T v w B es K g fs A k) {K' : Nat} (hk : K ≤ K') : Xr T v w B es K' g fs A k := by
  obtain ⟨m, h1, h2, h3, h4⟩ := h
  exact ⟨m, h1, h2, h3, by omega⟩
theorem Xr.plain (h : Xr T v w B es K g fs A k) : Xr nilT v w B es K g fs A k := by
  obtain ⟨m, h1, h2⟩ := h
  exact ⟨m, ⟨h1.p, h1.r, h1.mg, h1.mA, h1.vg, fun i hi => False.elim hi⟩, h2⟩
theorem Xr.past (h : Xr T v w B es K g fs A k) (T' : Nat → Prop) (hT : ∀ i, T' i → w.heap.size ≤ i) : Xr T' v w B es K g fs A k := by
  obtain ⟨m, h1, h2⟩ := h
  exact ⟨m, ⟨h1.p, h1.r, h1.mg, h1.mA, h1.vg, fun i hi => ⟨fun hm => by have := h1.p.a.lt hm; have := hT i hi; omega, fun e => by have := h1.r.blk.lt; have := hT i hi; omega, fun ⟨o, e⟩ => by have := ownS_lt h1.r.own i o e; have := hT i hi; omega⟩⟩, h2⟩

def RetRA (T : Nat → Prop) (v w : World) (B : Nat) (es : List SE) (K g : Nat) (fs : List SE) (A : Option Addr) (k : Nat) (c f : List UInt8) (q : Int) (e : Ending) (w' : World) : Prop :=
  e = .returned (.tuple #[.bool (addB es c f q), .int .i64 (addErr f q)]) ∧ Xr T v w' B (addV es c f q) (K + 1) g fs A k ∧ But (fun i => ¬ T i) w w'
theorem rtAdd (h : Xr T v w B es K g fs A k) (hT : ∀ i, T i → i < w.heap.size) (c f : List UInt8) (q : Int) (hc : c.length ≤ 65535) (hf : f.length ≤ 65535) (hK : K ≤ 1000000) :
    Calls Tryz.prog 6 #[.pointer (some ⟨B, 0, none⟩), .string (str c), .agg #[.string (str f), .int .i64 q]] w (RetRA T v w B es K g fs A k c f q) := by
  obtain ⟨m, h1, rfl, rfl, h4⟩ := h
  refine (pAddV_any m c f q w h1.p.a hc hf (by omega)).mono fun e w' hr => ?_
  obtain ⟨m', he, hp, hB, hL, hKK, hb, hS⟩ := hr
  obtain ⟨p1, p2⟩ := h1.stepP hT hp hb hS
  exact ⟨he, ⟨m', p1, hB, hL, by omega⟩, p2⟩
def RetRA2 (T : Nat → Prop) (v w : World) (B : Nat) (es : List SE) (K g : Nat) (fs : List SE) (c f : List UInt8) (q : Int) (e : Ending) (w' : World) : Prop :=
  e = .returned (.tuple #[.bool (addB fs c f q), .int .i64 (addErr f q)]) ∧ ∃ A' k', Xr T v w' B es K g (addV fs c f q) A' k' ∧ But (fun i => ¬ T i) w w'
theorem rtAdd2 (h : Xr T v w B es K g fs A k) (hT : ∀ i, T i → i < w.heap.size) (c f : List UInt8) (q : Int) (hf : f.length ≤ 65535) (hn : fs.length ≤ 1000000) :
    Calls Tryz.prog 7 #[.pointer (some ⟨g, 0, none⟩), .string (str c), .agg #[.string (str f), .int .i64 q]] w (RetRA2 T v w B es K g fs c f q) := by
  have hbel := h.bel
  obtain ⟨m, h1, h2⟩ := h
  refine (rAdd_any g v.heap.size fs A k c f q w h1.r hn hbel.size hf).mono fun e w' hr => ?_
  unfold RetAd at hr
  by_cases t1 : filterL f = false
  · rw [if_pos t1] at hr
    have e1 : addErr f q = 121 := by unfold addErr; rw [if_pos t1]
    have e2 : addB fs c f q = false := by unfold addB; rw [e1]; rfl
    have e3 : addV fs c f q = fs := by unfold addV; rw [if_neg (by rw [t1]; simp)]
    exact ⟨by rw [e1, e2]; exact hr.1, A, k, by rw [e3]; exact Xr.keep ⟨m, h1, h2⟩ hr.2, But.ofBelow hr.2 _⟩
  · rw [if_neg t1] at hr
    by_cases t2 : q < 0 ∨ 2 < q
    · rw [if_pos t2] at hr
      have e1 : addErr f q = 1 := by unfold addErr; rw [if_neg t1, if_pos t2]
      have e2 : addB fs c f q = false := by unfold addB; rw [e1]; rfl
      have e3 : addV fs c f q = fs := by unfold addV; rw [if_neg (by omega)]
      exact ⟨by rw [e1, e2]; exact hr.1, A, k, by rw [e3]; exact Xr.keep ⟨m, h1, h2⟩ hr.2, But.ofBelow hr.2 _⟩
    · rw [if_neg t2] at hr
      obtain ⟨A', k', he, hri, hA, hb⟩ := hr
      have hft : filterL f = true := by simpa using t1
      have e1 : addErr f q = 0 := addErr_ok hft (by omega) (by omega)
      have e2 : addB fs c f q = hadE fs c f := by unfold addB; rw [e1]; rfl
      have e3 : addV fs c f q = addE fs c f q := by unfold addV; rw [if_pos ⟨hft, by omega, by omega⟩]
      obtain ⟨p1, p2⟩ := h1.stepD hT hri hA hb
      exact ⟨by rw [e1, e2]; exact he, A', k', by rw [e3]; exact ⟨m, p1, h2⟩, p2⟩
def RetRD (T : Nat → Prop) (v w : World) (B : Nat) (es : List SE) (K g : Nat) (fs : List SE) (A : Option Addr) (k : Nat) (c f : List UInt8) (e : Ending) (w' : World) : Prop :=
  e = .returned (.tuple #[.bool (filterL f && hadE es c f), .int .i64 (errN (filterL f) 121)]) ∧ Xr T v w' B (dropV es c f) K g fs A k ∧ But (fun i => ¬ T i) w w'
theorem rtDrop (h : Xr T v w B es K g fs A k) (hT : ∀ i, T i → i < w.heap.size) (c f : List UInt8) (hc : c.length ≤ 65535) (hf : f.length ≤ 65535) (hK : K ≤ 1000000) :
    Calls Tryz.prog 8 #[.pointer (some ⟨B, 0, none⟩), .string (str c), .string (str f)] w (RetRD T v w B es K g fs A k c f) := by
  obtain ⟨m, h1, rfl, rfl, h4⟩ := h
  refine (pDropV_any m c f w h1.p.a hc hf (by omega)).mono fun e w' hr => ?_
  obtain ⟨m', he, hp, hB, hL, hKK, hb, hS⟩ := hr
  obtain ⟨p1, p2⟩ := h1.stepP hT hp hb (fun i hi => Or.inl (hS i hi))
  exact ⟨he, ⟨m', p1, hB, hL, by omega⟩, p2⟩
def RetRD2 (T : Nat → Prop) (v w : World) (B : Nat) (es : List SE) (K g : Nat) (fs : List SE) (c f : List UInt8) (e : Ending) (w' : World) : Prop :=
  e = .returned (.tuple #[.bool (filterL f && hadE fs c f), .int .i64 (errN (filterL f) 121)]) ∧ ∃ A' k', Xr T v w' B es K g (dropV fs c f) A' k' ∧ But (fun i => ¬ T i) w w'
theorem rtDrop2 (h : Xr T v w B es K g fs A k) (hT : ∀ i, T i → i < w.heap.size) (c f : List UInt8) (hf : f.length ≤ 65535) (hn : fs.length ≤ 1000000) :
    Calls Tryz.prog 9 #[.pointer (some ⟨g, 0, none⟩), .string (str c), .string (str f)] w (RetRD2 T v w B es K g fs c f) := by
  have hbel := h.bel
  obtain ⟨m, h1, h2⟩ := h
  refine (rDrop_any g v.heap.size fs A k c f w h1.r hn hbel.size hf).mono fun e w' hr => ?_
  unfold RetDr at hr
  by_cases t1 : filterL f = true
  · rw [if_pos t1] at hr
    obtain ⟨A', k', he, hri, hA, hb⟩ := hr
    rw [drop_had fs c f (filterL_ne t1)] at he
    have e3 : dropV fs c f = dropE fs c f := by unfold dropV; rw [if_pos t1]
    obtain ⟨p1, p2⟩ := h1.stepD hT hri (Or.inr hA) (hb.wide fun i e => Or.inl e)
    exact ⟨by rw [t1]; exact he, A', k', by rw [e3]; exact ⟨m, p1, h2⟩, p2⟩
  · rw [if_neg t1] at hr
    have t2 : filterL f = false := by simpa using t1
    have e3 : dropV fs c f = fs := by unfold dropV; rw [if_neg t1]
    exact ⟨by rw [t2]; exact hr.1, A, k, by rw [e3]; exact Xr.keep ⟨m, h1, h2⟩ hr.2, But.ofBelow hr.2 _⟩
def RetRG (T : Nat → Prop) (v w : World) (B : Nat) (es : List SE) (K g : Nat) (fs : List SE) (A : Option Addr) (k : Nat) (c : List UInt8) (e : Ending) (w' : World) : Prop :=
  e = .returned (.tuple #[.int .i64 ((es.length : Int) - ((dropE es c []).length : Int)), .int .i64 0]) ∧ Xr T v w' B (dropE es c []) K g fs A k ∧ But (fun i => ¬ T i) w w'
theorem rtGone (h : Xr T v w B es K g fs A k) (hT : ∀ i, T i → i < w.heap.size) (c : List UInt8) (hc : c.length ≤ 65535) (hK : K ≤ 1000000) :
    Calls Tryz.prog 10 #[.pointer (some ⟨B, 0, none⟩), .string (str c)] w (RetRG T v w B es K g fs A k c) := by
  obtain ⟨m, h1, rfl, rfl, h4⟩ := h
  refine (pGoneV_any m c w h1.p.a hc (by omega)).mono fun e w' hr => ?_
  obtain ⟨m', he, hp, hB, hL, hKK, hb, hS⟩ := hr
  obtain ⟨p1, p2⟩ := h1.stepP hT hp hb (fun i hi => Or.inl (hS i hi))
  exact ⟨he, ⟨m', p1, hB, hL, by omega⟩, p2⟩
def RetRG2 (T : Nat → Prop) (v w : World) (B : Nat) (es : List SE) (K g : Nat) (fs : List SE) (c : List UInt8) (e : Ending) (w' : World) : Prop :=
  e = .returned (.int .i64 ((fs.length : Int) - ((dropE fs c []).length : Int))) ∧ ∃ A' k', Xr T v w' B es K g (dropE fs c []) A' k' ∧ But (fun i => ¬ T i) w w'
theorem rtGone2 (h : Xr T v w B es K g fs A k) (hT : ∀ i, T i → i < w.heap.size) (c : List UInt8) (hn : fs.length ≤ 1000000) :
    Calls Tryz.prog 11 #[.pointer (some ⟨g, 0, none⟩), .string (str c)] w (RetRG2 T v w B es K g fs c) := by
  have hbel := h.bel
  obtain ⟨m, h1, h2⟩ := h
  refine (rGone_any g v.heap.size fs A k c w h1.r hn hbel.size).mono fun e w' hr => ?_
  obtain ⟨A', k', he, hri, hA, hb⟩ := hr
  obtain ⟨p1, p2⟩ := h1.stepD hT hri (Or.inr hA) (hb.wide fun i e => Or.inl e)
  exact ⟨he, A', k', ⟨m, p1, h2⟩, p2⟩
end
end Go.Proofs.YtfjafpbmgbnllaaGreat
