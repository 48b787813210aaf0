/-
  What is proved here: two indices side by side, new since a world; what a call of the one leaves of the other, and of blocks that are neither's. Conditions: texts of at most 65535 bytes; at most a million calls.
-/
import Derived.Test.YtfjafpbmgbnllaaSp11
namespace Go.Proofs.Ytfjafpbmgbnllaa
set_option linter.unusedVariables false
set_option linter.unusedSimpArgs false
open Go.RowKit Go.Maps

/-- Two indices; the blocks of T are neither's. -/
def Xy (T : Nat → Prop) (v w : World) (B C : Nat) (es fs : List SE) (K : Nat) : Prop := ∃ m n, PvA v w m ∧ PvA v w n ∧ (∀ i, m.S i → ¬ n.S i) ∧ (∀ i, T i → ¬ m.S i ∧ ¬ n.S i) ∧ m.B = B ∧ n.B = C ∧ ses m.L = es ∧ ses n.L = fs ∧ m.K ≤ K ∧ n.K ≤ K
def noT : Nat → Prop := fun _ => False
section
variable {T : Nat → Prop} {v w w' : World} {B C K : Nat} {es fs : List SE}
theorem Xy.swap (h : Xy T v w B C es fs K) : Xy T v w C B fs es K := by
  obtain ⟨m, n, h1, h2, h3, h10, h4, h5, h6, h7, h8, h9⟩ := h
  exact ⟨n, m, h2, h1, fun i hi hm => h3 i hm hi, fun i hi => ⟨(h10 i hi).2, (h10 i hi).1⟩, h5, h4, h7, h6, h9, h8⟩
theorem Xy.keep (h : Xy T v w B C es fs K) (b : Below w.heap.size w w') : Xy T v w' B C es fs K := by
  obtain ⟨m, n, h1, h2, h3⟩ := h
  exact ⟨m, n, h1.keep b, h2.keep b, h3⟩
theorem Xy.left (h : Xy T v w B C es fs K) : Xs v w B es K := by
  obtain ⟨m, n, h1, h2, h3, h10, h4, h5, h6, h7, h8, h9⟩ := h
  exact ⟨m, h1, h4, h6, h8⟩
theorem Xy.right (h : Xy T v w B C es fs K) : Xs v w C fs K := h.swap.left
theorem Xy.bel (h : Xy T v w B C es fs K) : Below v.heap.size v w := h.left.bel
theorem Xy.more (h : Xy T v w B C es fs K) {K' : Nat} (hk : K ≤ K') : Xy T v w B C es fs K' := by
  obtain ⟨m, n, h1, h2, h3, h10, h4, h5, h6, h7, h8, h9⟩ := h
  exact ⟨m, n, h1, h2, h3, h10, h4, h5, h6, h7, by omega, by omega⟩
theorem Xy.plain (h : Xy T v w B C es fs K) : Xy noT v w B C es fs K := by
  obtain ⟨m, n, h1, h2, h3, h10, h4⟩ := h
  exact ⟨m, n, h1, h2, h3, fun i hi => hi.elim, h4⟩
/-- Blocks that are not there yet are neither's. -/
theorem Xy.past (h : Xy T v w B C es fs K) (T' : Nat → Prop) (hT : ∀ i, T' i → w.heap.size ≤ i) : Xy T' v w B C es fs K := by
  obtain ⟨m, n, h1, h2, h3, h10, h4⟩ := h
  exact ⟨m, n, h1, h2, h3, fun i hi => ⟨fun hm => by have := h1.a.lt hm; have := hT i hi; omega, fun hm => by have := h2.a.lt hm; have := hT i hi; omega⟩, h4⟩
def RetYN (v : World) (B : Nat) (es : List SE) (K : Nat) (e : Ending) (w' : World) : Prop := ∃ C, e = .returned (.pointer (some ⟨C, 0, none⟩)) ∧ Xy noT v w' B C es [] K
theorem yNew (h : Xs v w B es K) : Calls Try.prog 9 #[] w (RetYN v B es K) :=
  (pNew_any w).mono fun e w' hr => by
    obtain ⟨n, he, hp, hL, ht, hK, hS, hb⟩ := hr
    obtain ⟨m, h1, h2, h3, h4⟩ := h
    exact ⟨n.B, he, m, n, h1.keep hb, ⟨hp, fun i hi => Nat.le_trans h1.bel.size (hS i hi), below_on h1.bel hb⟩, fun i hi hn => (by have := h1.a.lt hi; have := hS i hn; omega), fun i hi => hi.elim, h2, rfl, h3, by rw [hL]; rfl, h4, by omega⟩
theorem Xy.step {m n m' : Px} (h1 : PvA v w m) (h2 : PvA v w n) (h3 : ∀ i, m.S i → ¬ n.S i) (h4 : ∀ i, T i → ¬ m.S i ∧ ¬ n.S i) (hT : ∀ i, T i → i < w.heap.size) (p : PxA w' m') (hb : But m.S w w') (hs : ∀ i, m'.S i → m.S i ∨ w.heap.size ≤ i) :
    PvA v w' m' ∧ PvA v w' n ∧ (∀ i, m'.S i → ¬ n.S i) ∧ (∀ i, T i → ¬ m'.S i ∧ ¬ n.S i) ∧ But (fun i => ¬ T i) w w' := by
  have p1 := h1.step p hb hs
  refine ⟨p1, ⟨h2.a.but hb (fun i hn hm => h3 i hm hn), h2.new, p1.bel⟩, fun i hi hn => ?_, fun i hi => ⟨fun hm => ?_, (h4 i hi).2⟩, hb.wide fun i hi ht => (h4 i ht).1 hi⟩
  · rcases hs i hi with h | h
    · exact h3 i h hn
    · have := h2.a.lt hn
      omega
  · rcases hs i hm with h | h
    · exact (h4 i hi).1 h
    · have := hT i hi
      omega
theorem Xy.step0 {m n m' : Px} (h1 : PvA v w m) (h2 : PvA v w n) (h3 : ∀ i, m.S i → ¬ n.S i) (h4 : ∀ i, T i → ¬ m.S i ∧ ¬ n.S i) (p : PxA w' m') (hb : But m.S w w') (hs : ∀ i, m'.S i → m.S i) :
    PvA v w' m' ∧ PvA v w' n ∧ (∀ i, m'.S i → ¬ n.S i) ∧ (∀ i, T i → ¬ m'.S i ∧ ¬ n.S i) ∧ But (fun i => ¬ T i) w w' := by
  have p1 := h1.step p hb (fun i hi => Or.inl (hs i hi))
  exact ⟨p1, ⟨h2.a.but hb (fun i hn hm => h3 i hm hn), h2.new, p1.bel⟩, fun i hi hn => h3 i (hs i hi) hn, fun i hi => ⟨fun hm => (h4 i hi).1 (hs i hm), (h4 i hi).2⟩, hb.wide fun i hi ht => (h4 i ht).1 hi⟩
def RetYA (T : Nat → Prop) (v w : World) (B C : Nat) (es fs : List SE) (K : Nat) (c f : List UInt8) (q : Int) (e : Ending) (w' : World) : Prop :=
  e = .returned (.tuple #[.bool (addB es c f q), .int .i64 (addErr f q)]) ∧ Xy T v w' B C (addV es c f q) fs (K + 1) ∧ But (fun i => ¬ T i) w w'
theorem yAdd (h : Xy T v w B C es fs K) (hT : ∀ i, T i → i < w.heap.size) (c f : List UInt8) (q : Int) (hc : c.length ≤ 65535) (hf : f.length ≤ 65535) (hK : K ≤ 1000000) :
    Calls Try.prog 10 #[.pointer (some ⟨B, 0, none⟩), .string (str c), .agg #[.string (str f), .int .i64 q]] w (RetYA T v w B C es fs K c f q) := by
  obtain ⟨m, n, h1, h2, h3, h10, rfl, rfl, rfl, rfl, h8, h9⟩ := h
  refine (pAddV_any m c f q w h1.a hc hf (by omega)).mono fun e w' hr => ?_
  obtain ⟨m', he, hp, hB, hL, hKK, hb, hS⟩ := hr
  obtain ⟨p1, p2, p3, p4, p5⟩ := Xy.step h1 h2 h3 h10 hT hp hb hS
  exact ⟨he, ⟨m', n, p1, p2, p3, p4, hB, rfl, hL, rfl, by omega, by omega⟩, p5⟩
def RetYA2 (T : Nat → Prop) (v w : World) (B C : Nat) (es fs : List SE) (K : Nat) (c f : List UInt8) (q : Int) (e : Ending) (w' : World) : Prop :=
  e = .returned (.tuple #[.bool (addB fs c f q), .int .i64 (addErr f q)]) ∧ Xy T v w' B C es (addV fs c f q) (K + 1) ∧ But (fun i => ¬ T i) w w'
theorem yAdd2 (h : Xy T v w B C es fs K) (hT : ∀ i, T i → i < w.heap.size) (c f : List UInt8) (q : Int) (hc : c.length ≤ 65535) (hf : f.length ≤ 65535) (hK : K ≤ 1000000) :
    Calls Try.prog 10 #[.pointer (some ⟨C, 0, none⟩), .string (str c), .agg #[.string (str f), .int .i64 q]] w (RetYA2 T v w B C es fs K c f q) :=
  (yAdd h.swap hT c f q hc hf hK).mono fun e w' hr => ⟨hr.1, hr.2.1.swap, hr.2.2⟩
def RetYD (T : Nat → Prop) (v w : World) (B C : Nat) (es fs : List SE) (K : Nat) (c f : List UInt8) (e : Ending) (w' : World) : Prop :=
  e = .returned (.tuple #[.bool (filterL f && hadE es c f), .int .i64 (errN (filterL f) 121)]) ∧ Xy T v w' B C (dropV es c f) fs K ∧ But (fun i => ¬ T i) w w'
theorem yDrop (h : Xy T v w B C es fs K) (c f : List UInt8) (hc : c.length ≤ 65535) (hf : f.length ≤ 65535) (hK : K ≤ 1000000) :
    Calls Try.prog 15 #[.pointer (some ⟨B, 0, none⟩), .string (str c), .string (str f)] w (RetYD T v w B C es fs K c f) := by
  obtain ⟨m, n, h1, h2, h3, h10, rfl, rfl, rfl, rfl, h8, h9⟩ := h
  refine (pDropV_any m c f w h1.a hc hf (by omega)).mono fun e w' hr => ?_
  obtain ⟨m', he, hp, hB, hL, hKK, hb, hS⟩ := hr
  obtain ⟨p1, p2, p3, p4, p5⟩ := Xy.step0 h1 h2 h3 h10 hp hb hS
  exact ⟨he, ⟨m', n, p1, p2, p3, p4, hB, rfl, hL, rfl, by omega, by omega⟩, p5⟩
def RetYG (T : Nat → Prop) (v w : World) (B C : Nat) (es fs : List SE) (K : Nat) (c : List UInt8) (e : Ending) (w' : World) : Prop :=
  e = .returned (.tuple #[.int .i64 ((es.length : Int) - ((dropE es c []).length : Int)), .int .i64 0]) ∧ Xy T v w' B C (dropE es c []) fs K ∧ But (fun i => ¬ T i) w w'
theorem yGone (h : Xy T v w B C es fs K) (c : List UInt8) (hc : c.length ≤ 65535) (hK : K ≤ 1000000) :
    Calls Try.prog 13 #[.pointer (some ⟨B, 0, none⟩), .string (str c)] w (RetYG T v w B C es fs K c) := by
  obtain ⟨m, n, h1, h2, h3, h10, rfl, rfl, rfl, rfl, h8, h9⟩ := h
  refine (pGoneV_any m c w h1.a hc (by omega)).mono fun e w' hr => ?_
  obtain ⟨m', he, hp, hB, hL, hKK, hb, hS⟩ := hr
  obtain ⟨p1, p2, p3, p4, p5⟩ := Xy.step0 h1 h2 h3 h10 hp hb hS
  exact ⟨he, ⟨m', n, p1, p2, p3, p4, hB, rfl, hL, rfl, by omega, by omega⟩, p5⟩
/-- A new slice's blocks are neither's. -/
theorem Xy.slice (h : Xy T v w B C es fs K) (b : Below w.heap.size w w') {O : Option Addr} (hO : NewAt w O) : Xy (fun i => ∃ o, O = some ⟨i, o, none⟩) v w' B C es fs K :=
  (h.past _ fun i ⟨o, e⟩ => hO i o e).keep b
end
end Go.Proofs.Ytfjafpbmgbnllaa
