/-
  What is proved here: what the functions of package varint return, for every number, every slice that reads as bytes and every place. Condition: slices of at most 2^62 bytes where they are read.
-/
import Derived.Test.YtkgidimaiedocaaVt1
import Derived.Test.YtkgidimaiedocaaRoundReg
namespace Go.Proofs.Ytkgidimaiedocaa
set_option linter.unusedVariables false
set_option linter.unusedSimpArgs false
open Go.RowKit Go.Shelf

attribute [local go_sem] Oper.semAt_some

/-- Is it a length? -/
def isLen (n : Int) : Bool := decide (0 ≤ n ∧ n ≤ 268435455)
theorem isLength_in (F : Fence) (k : Nat) (h : F.fn 53) (hro : F.round = none) (n : Int) (w : World) :
    CallsIn F k Try.prog 53 #[.int .i64 n] w fun e w' => e = .returned (.bool (isLen n)) ∧ w = w' := by
  by_cases h0 : 0 ≤ n
  · by_cases h1 : n ≤ 268435455
    · rw [show isLen n = true by simp [isLen, h0, h1]]
      refine callsIn_of_wp Try.func53 rfl h ?_ hro
      simp only [Try.ntmps53, List.size_toArray, List.length_cons, List.length_nil, Nat.reduceAdd, Nat.reduceSub, Array.replicate_succ, Array.replicate_zero, List.push_toArray, List.append_toArray, List.nil_append, List.cons_append]
      gi_wp2
      go_ret
      exact ⟨rfl, rfl⟩
    · rw [show isLen n = false by simp [isLen, h1]]
      refine callsIn_of_wp Try.func53 rfl h ?_ hro
      simp only [Try.ntmps53, List.size_toArray, List.length_cons, List.length_nil, Nat.reduceAdd, Nat.reduceSub, Array.replicate_succ, Array.replicate_zero, List.push_toArray, List.append_toArray, List.nil_append, List.cons_append]
      gi_wp2
      go_ret
      exact ⟨rfl, rfl⟩
  · rw [show isLen n = false by simp [isLen, h0]]
    refine callsIn_of_wp Try.func53 rfl h ?_ hro
    simp only [Try.ntmps53, List.size_toArray, List.length_cons, List.length_nil, Nat.reduceAdd, Nat.reduceSub, Array.replicate_succ, Array.replicate_zero, List.push_toArray, List.append_toArray, List.nil_append, List.cons_append]
    gi_wp2
    go_ret
    exact ⟨rfl, rfl⟩

set_option maxRecDepth 100000 in
set_option maxHeartbeats 2000000 in
/-- Put: the bytes. -/
theorem put_ok_in (F : Fence) (k : Nat) (h : F.fn 28) (h15 : F.fn 53) (h16 : F.fn 54) (h18 : F.fn 81) (hro : F.round = none) (hk : 3 ≤ k) (n : Nat) (hn : n ≤ 268435455) (w : World) :
    CallsIn F k Try.prog 28 #[.int .i64 (n : Int)] w fun e w' => ∃ C c, e = .returned (.tuple #[.slice C (dgL n) c, .int .i64 0]) ∧ dgL n ≤ c ∧ Rd w' C (dgL n) (bv (dg n)) ∧ Below w.heap.size w w' := by
  have h1 : 1 ≤ k := by omega
  have hy : isLen (n : Int) = true := by simp [isLen]; omega
  obtain ⟨i0, hi, hz0, hz1, hz2⟩ := info_parts u8_info
  have hmk := fun W => run_make (P := Try.prog) W 28 5 i0 (.int .u8 0) Try.underlying28 hi hz0 .i64 .i64 0 4 (by omega) (by omega) (by rw [hz2]; decide) (by omega)
  rw [hz1] at hmk
  refine callsIn_of_wp_marks Try.func28 rfl h ?_ hro
  simp only [Try.ntmps28, List.size_toArray, List.length_cons, List.length_nil, Nat.reduceAdd, Nat.reduceSub, Array.replicate_succ, Array.replicate_zero, List.push_toArray, List.append_toArray, List.nil_append, List.cons_append]
  gi_wp2_with (first
    | (gi_at_call 53; refine (isLength_in F (k - 1) h15 hro (n : Int) _).mono ?_; rintro e w' ⟨rfl, rfl⟩; rw [hy])
    | (gi_at_call 54; refine (digits_in F (k - 1) h16 hro _ _).mono ?_; rintro e w' ⟨rfl, rfl⟩))
  have hnr : w.ownsRow w.heap.size 5 1 (.slice none 0 0) 0 [] := World.ownsRow_nil _ _ _ _
  have hR0 : (w.alloc (.cells (madeCells #[Value.int .u8 0] 4) 5)).ownsRow w.heap.size 5 1 (.slice (some ⟨w.heap.size, 0, none⟩) 0 4) 0 [] :=
    ⟨by simp, .inr ⟨w.heap.size, 4, madeCells #[Value.int .u8 0] 4, rfl, Nat.le_refl _, World.alloc_heap_new w _, by omega, by decide, by simp [madeCells], by simp⟩⟩
  obtain ⟨w1, hw1⟩ : ∃ w1, w.alloc (.cells (madeCells #[Value.int .u8 0] 4) 5) = w1 := ⟨_, rfl⟩
  have hs1 : w1.heap.size = w.heap.size + 1 := by rw [← hw1]; simp
  have hB1 : Below w.heap.size w w1 := by rw [← hw1]; exact (Below.refl _ w).alloc (Nat.le_refl _) _
  rw [hw1] at hR0 ⊢
  have bO := Boxed.new w1 28 (.slice (some ⟨w.heap.size, 0, none⟩) 0 4)
  have bN := Boxed.new (w1.alloc (.cells #[.slice (some ⟨w.heap.size, 0, none⟩) 0 4] 28)) 3 (.int .i64 (n : Int))
  rw [World.size_alloc, hs1] at bN
  rw [hs1] at bO
  have hB0 : Below w.heap.size w ((w1.alloc (.cells #[.slice (some ⟨w.heap.size, 0, none⟩) 0 4] 28)).alloc (.cells #[.int .i64 (n : Int)] 3)) := (hB1.alloc (by omega) _).alloc (by simp; omega) _
  have hz : ((w1.alloc (.cells #[.slice (some ⟨w.heap.size, 0, none⟩) 0 4] 28)).alloc (.cells #[.int .i64 (n : Int)] 3)).heap.size = w.heap.size + 3 := by simp [hs1]
  clear hw1 hnr
  refine wpIn_rangeFunc_ownG hro h1 (gf := 81) (lb := #[.pointer (some ⟨w.heap.size + 1 + 1, 0, none⟩)]) rfl h18 (enters_of Try.func81 (by kernel_rfl) rfl)
    (digits_stops F (k - 1) h18 hro (by omega) (w.heap.size + 1 + 1) w.heap.size n hn _ (by rw [hz]; omega) bN.cell) belowK_t (belowK_b (by rw [hz]; omega)) (Below.refl _ _) (fun _ => rfl)
    (fun pre W => (∃ v, Boxed W (w.heap.size + 1) 28 v ∧ W.ownsRow w.heap.size 5 1 v pre.length (bv pre) ∧ True) ∧ Below w.heap.size w W)
    (fun _ _ _ => False)
    (OwnFrom.and (Own.from (holdsRow_own w.heap.size (w.heap.size + 1) 28 5 1 (fun pre => pre.length) (fun pre => bv pre) (fun _ _ => True)) _) (ownFrom_below (Nat.le_refl _) (by rw [hz]; omega)))
    (fun _ _ _ _ _ hs _ _ => hs)
    ⟨⟨_, bO.alloc _, (hR0.alloc _).alloc _, trivial⟩, hB0⟩
    (fun x => { tmps := #[.int .i64 (n : Int), undef, .slice none 0 0, .int .i64 0, .pointer (some ⟨w.heap.size + 1, 0, none⟩), .int .u8 x.toNat, .int .i64 (n : Int), .bool true, .bool false, .slice (some ⟨w.heap.size, 0, none⟩) 0 4, .int .i64 (n : Int), .func (.func 81) #[] #[.pointer (some ⟨w.heap.size + 1 + 1, 0, none⟩)], .int .u8 x.toNat, undef, undef, undef, undef, undef], defers := [] }) ?assign ?body ?done ?stop
  case assign =>
    intro l x W K hK
    gi_wp2
    exact hK
  case body =>
    rintro l pre x W ⟨⟨v, hv, hrow, _⟩, hB⟩ hlt
    have hc := hv.cell
    have hlen : pre.length < 4 := by have := (dgL_le n).2; rw [← dg_length n hn] at this; omega
    gi_wp2_with (gi_at_builtin; refine wpListIn_append_own _ rfl _ _ 28 rfl w.heap.size 5 i0 (.int .u8 0) 1 1 Try.underlying28 hi hz0 hz1 hz2 rfl (by decide) _ _ _ rfl (hrow.alloc _) ⟨W.heap.size, 0, none⟩ 1 1 [.int .u8 x.toNat] rfl rfl (cell_one_new _ _ _) (by simp [Value.oneCell']) (by unfold maxLen; omega) (by omega) (by have := hB.size; simp; omega) ?_; intro v' w1 hown' hgrow _; obtain ⟨g', cap', rfl⟩ := ownsRow_succ hown'; obtain ⟨hv1, hv2, hr2, hk2, hb2⟩ := hv.appended (by decide) hrow hB.size (by omega) hown' hgrow; have hc1 := hv1.cell; have hf1 := hv1.frozen)
    exact ⟨hk2.from _, hb2, ⟨_, hv2, by rw [bv_append, List.length_append]; exact hr2, trivial⟩, hB.trans hb2⟩
  case done =>
    rintro D ys W hD rfl ⟨⟨v, hv, hrow, _⟩, hB⟩ hK
    have hc := hv.cell
    have hp : ∃ m, (dg n).length = m + 1 := ⟨(dg n).length - 1, by have := (dgL_le n).1; rw [← dg_length n hn] at this; omega⟩
    obtain ⟨m, hm⟩ := hp
    have hrow' := hrow
    rw [hm] at hrow'
    obtain ⟨g, cap, rfl⟩ := ownsRow_succ hrow'
    rw [← hm, dg_length n hn] at hc hrow
    gi_wp2
    refine ⟨by simp, .inl ⟨_, _, rfl, run_takeDeferred hK, ?_⟩⟩
    have hrow2 := ownsRow_putObj hrow (.deferred none) hK rfl
    exact ⟨_, results_tmp2 rfl _ _ _, _, cap, rfl, own_cap hrow, own_rd hrow2, hB.trans (belowK_b (w := w) (Nat.le_refl _) W D _ _ (by rw [hz] at hD; omega) hK rfl rfl)⟩
  case stop =>
    rintro D c pre W _ _ h _
    exact h.elim

/-- Put: refused. -/
theorem put_no_in (F : Fence) (k : Nat) (h : F.fn 28) (h15 : F.fn 53) (hro : F.round = none) (hk : 1 ≤ k) (n : Int) (hn : isLen n = false) (w : World) :
    CallsIn F k Try.prog 28 #[.int .i64 n] w fun e w' => e = .returned (.tuple #[.slice none 0 0, .int .i64 1]) ∧ w = w' := by
  refine callsIn_of_wp_marks Try.func28 rfl h ?_ hro
  simp only [Try.ntmps28, List.size_toArray, List.length_cons, List.length_nil, Nat.reduceAdd, Nat.reduceSub, Array.replicate_succ, Array.replicate_zero, List.push_toArray, List.append_toArray, List.nil_append, List.cons_append]
  gi_wp2_with (gi_at_call 53; refine (isLength_in F (k - 1) h15 hro n _).mono ?_; rintro e w' ⟨rfl, rfl⟩; rw [hn])
  exact ⟨_, results_tmp2 rfl _ _ _, rfl, rfl⟩

/-- Three results that are variables of their own. -/
theorem results_cells3 {P : Program} {fn : Func} {a b c : Tmp} {t u : TypeId} (h : fn.results = #[.cell a t, .cell b t, .cell c u]) {tmps : Array Value} {w : World} {p q r : Addr} {x y z : Value}
    (ha : tmps.getD a undef = .pointer (some p)) (hb : tmps.getD b undef = .pointer (some q)) (hc : tmps.getD c undef = .pointer (some r)) (ht : ∀ W, (isAgg t).run P W = .ok false W) (hu : ∀ W, (isAgg u).run P W = .ok false W)
    (hx : w.cell? p = some x) (hy : w.cell? q = some y) (hz : w.cell? r = some z) : (results fn tmps).run P w = .ok (.tuple #[x, y, z]) w := by
  rw [Array.getD_eq_getD_getElem?] at ha hb hc
  simp [results, h, ha, hb, hc, asAddr, loadVar, ht, hu, go_sem, hx, hy, hz]
theorem agg_int : ∀ W, (isAgg 3).run Try.prog W = .ok false W := by intro W; simp [isAgg, go_sem, Try.underlying3]
theorem agg_err : ∀ W, (isAgg 25).run Try.prog W = .ok false W := by intro W; simp [isAgg, go_sem, Try.underlying25]

/-- The world at At's loop. -/
def atWorld (w : World) (A : Option Addr) (l c i : Nat) : World :=
  (((((((w.alloc (.cells #[.int .i64 (i : Int)] 3)).alloc (.cells #[.int .i64 0] 3)).alloc (.cells #[.int .i64 0] 3)).alloc (.cells #[.int .i64 0] 25)).alloc (.cells #[.int .i64 0] 3)).alloc (.cells #[.int .i64 0] 3)).alloc (.cells #[.slice A l c] 28)).alloc (.cells #[.int .i64 (i : Int)] 3)
/-- At's variables. -/
def AtBox (W : World) (B0 B1 B2 B3 B4 B5 : Nat) (i : Int) (r0 r1 r2 n k : Int) : Prop :=
  Boxed W B0 3 (.int .i64 i) ∧ Boxed W B1 3 (.int .i64 r0) ∧ Boxed W B2 3 (.int .i64 r1) ∧ Boxed W B3 25 (.int .i64 r2) ∧ Boxed W B4 3 (.int .i64 n) ∧ Boxed W B5 3 (.int .i64 k)
theorem boxed_other {A B : World} {row : Option Nat} {b : Nat} {t : TypeId} {v : Value} (h : Boxed A b t v) (hg : A.grownBy B row) (hr : ∀ r, row = some r → ∃ o : Obj, A.heap[r]? = some o ∧ o.isCells = false) : Boxed B b t v :=
  h.kept hg (fun e' => by obtain ⟨o, ho, hc⟩ := hr _ e'.symm; rw [show A.heap[b]? = _ from h] at ho; cases ho; cases hc)
theorem AtBox.other {A B : World} {row : Option Nat} {B0 B1 B2 B3 B4 B5 : Nat} {i r0 r1 r2 n k : Int} (h : AtBox A B0 B1 B2 B3 B4 B5 i r0 r1 r2 n k) (hg : A.grownBy B row) (hr : ∀ r, row = some r → ∃ o : Obj, A.heap[r]? = some o ∧ o.isCells = false) : AtBox B B0 B1 B2 B3 B4 B5 i r0 r1 r2 n k :=
  ⟨boxed_other h.1 hg hr, boxed_other h.2.1 hg hr, boxed_other h.2.2.1 hg hr, boxed_other h.2.2.2.1 hg hr, boxed_other h.2.2.2.2.1 hg hr, boxed_other h.2.2.2.2.2 hg hr⟩
theorem atBox_own {β : Type} (B0 B1 B2 B3 B4 B5 : Nat) (i : Int) (r0 r1 r2 n k : β → Int) : Own (fun s W => AtBox W B0 B1 B2 B3 B4 B5 i (r0 s) (r1 s) (r2 s) (n s) (k s)) := fun _ _ _ _ hs hg hr => hs.other hg hr
theorem AtBox.st1 {W : World} {B0 B1 B2 B3 B4 B5 : Nat} {i r0 r1 r2 n k : Int} (h : AtBox W B0 B1 B2 B3 B4 B5 i r0 r1 r2 n k) (D : B1 = B0 + 1 ∧ B2 = B0 + 2 ∧ B3 = B0 + 3 ∧ B4 = B0 + 4 ∧ B5 = B0 + 5) (v : Int) : AtBox (W.setCell ⟨B1, 0, none⟩ (.int .i64 v)) B0 B1 B2 B3 B4 B5 i v r1 r2 n k :=
  ⟨h.1.other (by omega) _, h.2.1.set _, h.2.2.1.other (by omega) _, h.2.2.2.1.other (by omega) _, h.2.2.2.2.1.other (by omega) _, h.2.2.2.2.2.other (by omega) _⟩
theorem AtBox.st2 {W : World} {B0 B1 B2 B3 B4 B5 : Nat} {i r0 r1 r2 n k : Int} (h : AtBox W B0 B1 B2 B3 B4 B5 i r0 r1 r2 n k) (D : B1 = B0 + 1 ∧ B2 = B0 + 2 ∧ B3 = B0 + 3 ∧ B4 = B0 + 4 ∧ B5 = B0 + 5) (v : Int) : AtBox (W.setCell ⟨B2, 0, none⟩ (.int .i64 v)) B0 B1 B2 B3 B4 B5 i r0 v r2 n k :=
  ⟨h.1.other (by omega) _, h.2.1.other (by omega) _, h.2.2.1.set _, h.2.2.2.1.other (by omega) _, h.2.2.2.2.1.other (by omega) _, h.2.2.2.2.2.other (by omega) _⟩
theorem AtBox.st3 {W : World} {B0 B1 B2 B3 B4 B5 : Nat} {i r0 r1 r2 n k : Int} (h : AtBox W B0 B1 B2 B3 B4 B5 i r0 r1 r2 n k) (D : B1 = B0 + 1 ∧ B2 = B0 + 2 ∧ B3 = B0 + 3 ∧ B4 = B0 + 4 ∧ B5 = B0 + 5) (v : Int) : AtBox (W.setCell ⟨B3, 0, none⟩ (.int .i64 v)) B0 B1 B2 B3 B4 B5 i r0 r1 v n k :=
  ⟨h.1.other (by omega) _, h.2.1.other (by omega) _, h.2.2.1.other (by omega) _, h.2.2.2.1.set _, h.2.2.2.2.1.other (by omega) _, h.2.2.2.2.2.other (by omega) _⟩
theorem AtBox.st4 {W : World} {B0 B1 B2 B3 B4 B5 : Nat} {i r0 r1 r2 n k : Int} (h : AtBox W B0 B1 B2 B3 B4 B5 i r0 r1 r2 n k) (D : B1 = B0 + 1 ∧ B2 = B0 + 2 ∧ B3 = B0 + 3 ∧ B4 = B0 + 4 ∧ B5 = B0 + 5) (v : Int) : AtBox (W.setCell ⟨B4, 0, none⟩ (.int .i64 v)) B0 B1 B2 B3 B4 B5 i r0 r1 r2 v k :=
  ⟨h.1.other (by omega) _, h.2.1.other (by omega) _, h.2.2.1.other (by omega) _, h.2.2.2.1.other (by omega) _, h.2.2.2.2.1.set _, h.2.2.2.2.2.other (by omega) _⟩
theorem AtBox.st5 {W : World} {B0 B1 B2 B3 B4 B5 : Nat} {i r0 r1 r2 n k : Int} (h : AtBox W B0 B1 B2 B3 B4 B5 i r0 r1 r2 n k) (D : B1 = B0 + 1 ∧ B2 = B0 + 2 ∧ B3 = B0 + 3 ∧ B4 = B0 + 4 ∧ B5 = B0 + 5) (v : Int) : AtBox (W.setCell ⟨B5, 0, none⟩ (.int .i64 v)) B0 B1 B2 B3 B4 B5 i r0 r1 r2 n v :=
  ⟨h.1.other (by omega) _, h.2.1.other (by omega) _, h.2.2.1.other (by omega) _, h.2.2.2.1.other (by omega) _, h.2.2.2.2.1.other (by omega) _, h.2.2.2.2.2.set _⟩
theorem atWorld_facts (w : World) (A : Option Addr) (l c i : Nat) : AtBox (atWorld w A l c i) w.heap.size (w.heap.size + 1) (w.heap.size + 2) (w.heap.size + 3) (w.heap.size + 4) (w.heap.size + 5) i 0 0 0 0 0 ∧
    Boxed (atWorld w A l c i) (w.heap.size + 6) 28 (.slice A l c) ∧ Boxed (atWorld w A l c i) (w.heap.size + 7) 3 (.int .i64 (i : Int)) ∧ Below w.heap.size w (atWorld w A l c i) ∧ (atWorld w A l c i).heap.size = w.heap.size + 8 := by
  unfold AtBox atWorld
  have c0 := Boxed.new w 3 (.int .i64 (i : Int))
  obtain ⟨w0, hw0⟩ : ∃ w0, w.alloc (.cells #[.int .i64 (i : Int)] 3) = w0 := ⟨_, rfl⟩
  have s0 : w0.heap.size = w.heap.size + 1 := by rw [← hw0]; simp
  have b0 : Below w.heap.size w w0 := by rw [← hw0]; exact (Below.refl _ _).alloc (Nat.le_refl _) _
  rw [hw0] at c0 ⊢
  have c1 := Boxed.new w0 3 (.int .i64 0)
  rw [s0] at c1
  obtain ⟨w1, hw1⟩ : ∃ w1, w0.alloc (.cells #[.int .i64 0] 3) = w1 := ⟨_, rfl⟩
  replace c0 := c0.alloc (.cells #[.int .i64 0] 3)
  have s1 : w1.heap.size = w.heap.size + 2 := by rw [← hw1]; simp [s0]
  have b1 : Below w.heap.size w w1 := by rw [← hw1]; exact b0.alloc (by omega) _
  rw [hw1] at c0 c1 ⊢
  have c2 := Boxed.new w1 3 (.int .i64 0)
  rw [s1] at c2
  obtain ⟨w2, hw2⟩ : ∃ w2, w1.alloc (.cells #[.int .i64 0] 3) = w2 := ⟨_, rfl⟩
  replace c0 := c0.alloc (.cells #[.int .i64 0] 3)
  replace c1 := c1.alloc (.cells #[.int .i64 0] 3)
  have s2 : w2.heap.size = w.heap.size + 3 := by rw [← hw2]; simp [s1]
  have b2 : Below w.heap.size w w2 := by rw [← hw2]; exact b1.alloc (by omega) _
  rw [hw2] at c0 c1 c2 ⊢
  have c3 := Boxed.new w2 25 (.int .i64 0)
  rw [s2] at c3
  obtain ⟨w3, hw3⟩ : ∃ w3, w2.alloc (.cells #[.int .i64 0] 25) = w3 := ⟨_, rfl⟩
  replace c0 := c0.alloc (.cells #[.int .i64 0] 25)
  replace c1 := c1.alloc (.cells #[.int .i64 0] 25)
  replace c2 := c2.alloc (.cells #[.int .i64 0] 25)
  have s3 : w3.heap.size = w.heap.size + 4 := by rw [← hw3]; simp [s2]
  have b3 : Below w.heap.size w w3 := by rw [← hw3]; exact b2.alloc (by omega) _
  rw [hw3] at c0 c1 c2 c3 ⊢
  have c4 := Boxed.new w3 3 (.int .i64 0)
  have c5 := Boxed.new (w3.alloc (.cells #[.int .i64 0] 3)) 3 (.int .i64 0)
  have c6 := Boxed.new ((w3.alloc (.cells #[.int .i64 0] 3)).alloc (.cells #[.int .i64 0] 3)) 28 (.slice A l c)
  have c7 := Boxed.new (((w3.alloc (.cells #[.int .i64 0] 3)).alloc (.cells #[.int .i64 0] 3)).alloc (.cells #[.slice A l c] 28)) 3 (.int .i64 (i : Int))
  simp only [World.size_alloc, s3, Nat.add_assoc, Nat.reduceAdd] at c4 c5 c6 c7
  refine ⟨⟨(((c0.alloc _).alloc _).alloc _).alloc _, (((c1.alloc _).alloc _).alloc _).alloc _, (((c2.alloc _).alloc _).alloc _).alloc _, (((c3.alloc _).alloc _).alloc _).alloc _, ((c4.alloc _).alloc _).alloc _, (c5.alloc _).alloc _⟩, c6.alloc _, c7, ?_, by simp [s3]⟩
  exact (((b3.alloc (by omega) _).alloc (by simp; omega) _).alloc (by simp; omega) _).alloc (by simp; omega) _

/-- At: a place below 0. -/
theorem vat_neg_in (F : Fence) (k : Nat) (h : F.fn 103) (hro : F.round = none) (A : Option Addr) (l c : Nat) (i : Int) (hi : i < 0) (w : World) :
    CallsIn F k Try.prog 103 #[.slice A l c, .int .i64 i] w fun e w' => e = .returned (.tuple #[.int .i64 0, .int .i64 0, .int .i64 1]) ∧ Below w.heap.size w w' := by
  refine callsIn_of_wp_marks Try.func103 rfl h ?_ hro
  simp only [Try.ntmps103, List.size_toArray, List.length_cons, List.length_nil, Nat.reduceAdd, Nat.reduceSub, Array.replicate_succ, Array.replicate_zero, List.push_toArray, List.append_toArray, List.nil_append, List.cons_append]
  gi_wp2
  have c1 := Boxed.new (w.alloc (.cells #[.int .i64 i] 3)) 3 (.int .i64 0)
  have c2 := Boxed.new ((w.alloc (.cells #[.int .i64 i] 3)).alloc (.cells #[.int .i64 0] 3)) 3 (.int .i64 0)
  have c3 := Boxed.new (((w.alloc (.cells #[.int .i64 i] 3)).alloc (.cells #[.int .i64 0] 3)).alloc (.cells #[.int .i64 0] 3)) 25 (.int .i64 1)
  simp only [World.size_alloc] at c1 c2 c3
  refine ⟨_, results_cells3 rfl rfl rfl rfl agg_int agg_err ((c1.alloc _).alloc _).cell (c2.alloc _).cell c3.cell, rfl, ?_⟩
  exact ((((Below.refl _ w).alloc (Nat.le_refl _) _).alloc (by simp) _).alloc (by simp; omega) _).alloc (by simp; omega) _

/-- What At hands back at its last byte. -/
def atP (i : Nat) (ini : List UInt8) (x : UInt8) : Nat × Nat × Nat :=
  let r := atV [x] ini.length (acc ini)
  (r.1, if r.2.2 = 0 then i + r.2.1 else 0, r.2.2)
theorem atR_stop (xs : List UInt8) (i : Nat) (ini : List UInt8) (x : UInt8) (h : ini ++ [x] <+: (xs.drop i).take 4) (hi : ∀ d ∈ ini, 128 ≤ d.toNat) (hx : x.toNat < 128) : atR xs i = atP i ini x := by
  obtain ⟨t, ht⟩ := h
  unfold atR atP
  rw [← ht, List.append_assoc, atV_from _ _ hi]
  have : ∀ k m, atV ([x] ++ t) k m = atV [x] k m := by
    intro k m
    by_cases h0 : x.toNat = 0 ∧ 0 < k
    · rw [atV_zero h0.1 h0.2, List.singleton_append, atV_zero h0.1 h0.2]
    · rw [atV_ok hx (by omega), List.singleton_append, atV_ok hx (by omega)]
  rw [this]
theorem atR_all (xs : List UInt8) (i : Nat) (h : ∀ d ∈ (xs.drop i).take 4, 128 ≤ d.toNat) : atR xs i = (0, 0, if ((xs.drop i).take 4).length < 4 then 7 else 4) := by
  unfold atR
  have := atV_from _ [] h
  rw [List.append_nil] at this
  rw [this]
  simp only [atV]
  split <;> simp
/-- n |= m << 7k, n below 128^k. -/
theorem shl_or (n kk X : Nat) (hk : kk < 4) (hn : n < 128 ^ kk) : IntKind.i64.wrap ((X : Int) % 128 * 2 ^ ((kk : Int) * 7).toNat) = ((128 ^ kk * (X % 128) : Nat) : Int) ∧ wrap64 ((X : Int) % 128 * 2 ^ (kk * 7)) = ((128 ^ kk * (X % 128) : Nat) : Int) ∧
    bits .or .i64 (n : Int) ((128 ^ kk * (X % 128) : Nat) : Int) = ((n + 128 ^ kk * (X % 128) : Nat) : Int) := by
  have hX : X % 128 < 128 := Nat.mod_lt _ (by omega)
  have hp : (128 : Nat) ^ kk = 2 ^ (7 * kk) := by rw [Nat.pow_mul]
  have h1 : ((kk : Int) * 7).toNat = kk * 7 := by omega
  have h2 : (X : Int) % 128 * 2 ^ (kk * 7) = ((128 ^ kk * (X % 128) : Nat) : Int) := by rw [hp, Nat.mul_comm 7 kk, Int.mul_comm]; simp
  have hb : 128 ^ kk * (X % 128) < 268435456 ∧ n < 268435456 := by
    obtain rfl | rfl | rfl | rfl : kk = 0 ∨ kk = 1 ∨ kk = 2 ∨ kk = 3 := by omega
    all_goals simp at hn ⊢; omega
  have hw : IntKind.i64.wrap ((128 ^ kk * (X % 128) : Nat) : Int) = ((128 ^ kk * (X % 128) : Nat) : Int) := wrap_nat _ (by omega)
  refine ⟨?_, ?_, ?_⟩
  · rw [h1, h2]; exact hw
  · rw [h2]; rw [IntKind.wrap_i64] at hw; simp only [wrap64]; exact hw
  · rw [i64_or_nat _ _ (by omega) (by omega)]
    congr 1
    have h3 := Nat.two_pow_add_eq_or_of_lt (i := 7 * kk) (b := n) (by rw [← hp]; exact hn) (X % 128)
    rw [← hp] at h3
    rw [Nat.or_comm, ← h3, Nat.add_comm]

set_option maxRecDepth 100000 in
set_option maxHeartbeats 4000000 in
/-- At: as atR. -/
theorem vat_in (F : Fence) (k : Nat) (h : F.fn 103) (h17 : F.fn 116) (h19 : F.fn 125) (hro : F.round = none) (hk : 3 ≤ k) (A : Option Addr) (l c i : Nat) (xs : List UInt8) (w : World) (hA : Rd w A l (bv xs)) (hlc : l ≤ c) (hlm : l ≤ maxLen) (hxs : xs.length = l) :
    CallsIn F k Try.prog 103 #[.slice A l c, .int .i64 (i : Int)] w fun e w' => e = .returned (.tuple #[.int .i64 (atR xs i).1, .int .i64 (atR xs i).2.1, .int .i64 (atR xs i).2.2]) ∧ Below w.heap.size w w' := by
  have h1 : 1 ≤ k := by omega
  refine callsIn_of_wp_marks Try.func103 rfl h ?_ hro
  simp only [Try.ntmps103, List.size_toArray, List.length_cons, List.length_nil, Nat.reduceAdd, Nat.reduceSub, Array.replicate_succ, Array.replicate_zero, List.push_toArray, List.append_toArray, List.nil_append, List.cons_append]
  gi_wp2_with (gi_at_call 116; refine (bytesFrom_in F (k - 1) h17 hro _ _ _ _ _).mono ?_; rintro e w' ⟨rfl, rfl⟩)
  obtain ⟨W, hW⟩ : ∃ W, atWorld w A l c i = W := ⟨_, rfl⟩
  have HF := atWorld_facts w A l c i
  rw [hW] at HF
  unfold atWorld at hW
  rw [hW]
  obtain ⟨⟨c0, c1, c2, c3, c4, c5⟩, c6, c7, hb, hz⟩ := HF
  obtain ⟨B1, e1⟩ : ∃ x, x = w.heap.size + 1 := ⟨_, rfl⟩
  rw [← e1]
  obtain ⟨B2, e2⟩ : ∃ x, x = B1 + 1 := ⟨_, rfl⟩
  rw [← e2]
  obtain ⟨B3, e3⟩ : ∃ x, x = B2 + 1 := ⟨_, rfl⟩
  rw [← e3]
  obtain ⟨B4, e4⟩ : ∃ x, x = B3 + 1 := ⟨_, rfl⟩
  rw [← e4]
  obtain ⟨B5, e5⟩ : ∃ x, x = B4 + 1 := ⟨_, rfl⟩
  rw [← e5]
  obtain ⟨B6, e6⟩ : ∃ x, x = B5 + 1 := ⟨_, rfl⟩
  rw [← e6]
  obtain ⟨B7, e7⟩ : ∃ x, x = B6 + 1 := ⟨_, rfl⟩
  rw [← e7]
  obtain ⟨B0, e0⟩ : ∃ x, x = w.heap.size := ⟨_, rfl⟩
  rw [show w.heap.size + 1 = B1 by omega] at c1
  rw [show w.heap.size + 2 = B2 by omega] at c2
  rw [show w.heap.size + 3 = B3 by omega] at c3
  rw [show w.heap.size + 4 = B4 by omega] at c4
  rw [show w.heap.size + 5 = B5 by omega] at c5
  rw [show w.heap.size + 6 = B6 by omega] at c6
  rw [show w.heap.size + 7 = B7 by omega] at c7
  rw [← e0] at c0 hb ⊢
  refine wpIn_rangeFunc_ownG hro h1 (gf := 125) (lb := #[.pointer (some ⟨B6, 0, none⟩), .pointer (some ⟨B7, 0, none⟩)]) rfl h19 (enters_of Try.func125 (by kernel_rfl) rfl)
    (bytes_stops F (k - 1) h19 hro (by omega) B6 B7 B0 A l c i xs w W hA hlc hlm hxs (by omega) (by rw [← e0]; exact hb) (by omega) (by omega) c6.cell c7.cell) belowK_t (belowK_b (by omega)) (Below.refl _ _) (fun _ => rfl)
    (fun pre V => (AtBox V B0 B1 B2 B3 B4 B5 i 0 0 0 (acc pre) pre.length) ∧ (∀ d ∈ pre, 128 ≤ d.toNat) ∧ Below B0 w V)
    (fun cd pre V => (cd = .ret ∧ ∃ ini x, pre = ini ++ [x] ∧ (∀ d ∈ ini, 128 ≤ d.toNat) ∧ x.toNat < 128 ∧ ∃ n k, AtBox V B0 B1 B2 B3 B4 B5 i ((atP i ini x).1 : Nat) ((atP i ini x).2.1 : Nat) ((atP i ini x).2.2 : Nat) n k) ∧ Below B0 w V)
    (OwnFrom.and (Own.from (atBox_own _ _ _ _ _ _ _ _ _ _ _ _) _) (OwnFrom.and (fun _ _ _ _ h _ _ => h) (ownFrom_below (by omega) (by omega))))
    (fun cd => OwnFrom.and (Own.from (fun s A B row hs hg hr => by obtain ⟨e1, ini, x, e2, e3, e4, n, k, e5⟩ := hs; exact ⟨e1, ini, x, e2, e3, e4, n, k, e5.other hg hr⟩) _) (ownFrom_below (by omega) (by omega)))
    ⟨⟨c0, c1, c2, c3, c4, c5⟩, by simp, hb⟩
    (fun x => { tmps := #[.slice A l c, .int .i64 (i : Int), undef, .pointer (some ⟨B0, 0, none⟩), .pointer (some ⟨B1, 0, none⟩), .pointer (some ⟨B2, 0, none⟩), .pointer (some ⟨B3, 0, none⟩), .pointer (some ⟨B4, 0, none⟩), .pointer (some ⟨B5, 0, none⟩), .int .u8 x.toNat, .int .i64 (i : Int), .bool (decide ((i : Int) < 0)), .slice A l c, .int .i64 (i : Int), .func (.func 125) #[] #[.pointer (some ⟨B6, 0, none⟩), .pointer (some ⟨B7, 0, none⟩)], .int .u8 x.toNat, undef, undef, undef, undef, undef, undef, undef, undef, undef, undef, undef, undef, undef, undef, undef, undef, undef, undef, undef, undef, undef, undef, undef, undef], defers := [] }) ?assign ?body ?done ?stop
  case assign =>
    intro l x W K hK
    clear e0 e1 e2 e3 e4 e5 e6 e7
    gi_wp2
    exact hK
  case body =>
    rintro lo pre x V ⟨hbx, hpre, hB⟩ hlt
    have Hbx := hide hbx
    obtain ⟨d0, d1, d2, d3, d4, d5⟩ := hbx
    have k0 := d0.cell
    have k1 := d1.cell
    have k2 := d2.cell
    have k3 := d3.cell
    have k4 := d4.cell
    have k5 := d5.cell
    have f1 := d1.frozen
    have f2 := d2.frozen
    have f3 := d3.frozen
    have f4 := d4.frozen
    have f5 := d5.frozen
    have n45 : B4 ≠ B5 := by omega
    have n54 : B5 ≠ B4 := by omega
    have n04 : B0 ≠ B4 := by omega
    have n12 : B1 ≠ B2 := by omega
    have n13 : B1 ≠ B3 := by omega
    have n14 : B1 ≠ B4 := by omega
    have n15 : B1 ≠ B5 := by omega
    have n23 : B2 ≠ B3 := by omega
    have n24 : B2 ≠ B4 := by omega
    have n25 : B2 ≠ B5 := by omega
    have n34 : B3 ≠ B4 := by omega
    have n35 : B3 ≠ B5 := by omega
    have n21 : B2 ≠ B1 := by omega
    have n31 : B3 ≠ B1 := by omega
    have n32 : B3 ≠ B2 := by omega
    have n05 : B0 ≠ B5 := by omega
    have hx8 := x.toNat_lt
    obtain ⟨X, hX⟩ : ∃ X, x.toNat = X := ⟨_, rfl⟩
    have HX := hide hX
    rw [hX] at hx8 ⊢
    clear hX
    have hlen : pre.length < 4 := by rw [List.length_take] at hlt; omega
    have hfit : (i : Int) + ((pre.length : Int) + 1) ≤ 9223372036854775807 := by rw [List.length_take, List.length_drop] at hlt; unfold maxLen at hlm; omega
    have b1 : B0 ≤ B1 := by omega
    have b2 : B0 ≤ B2 := by omega
    have b3 : B0 ≤ B3 := by omega
    have b4 : B0 ≤ B4 := by omega
    have b5 : B0 ≤ B5 := by omega
    have HE := hide (show B1 = B0 + 1 ∧ B2 = B0 + 2 ∧ B3 = B0 + 3 ∧ B4 = B0 + 4 ∧ B5 = B0 + 5 by omega)
    have Hpre := hide hpre
    have HB := hide hB
    clear e0 e1 e2 e3 e4 e5 e6 e7 hlt hpre d0 d1 d2 d3 d4 d5 hB hz
    obtain ⟨n, hn⟩ : ∃ n, acc pre = n := ⟨_, rfl⟩
    obtain ⟨kk, hkk⟩ : ∃ kk, pre.length = kk := ⟨_, rfl⟩
    rw [hn] at k4
    rw [hkk] at k5 hlen hfit
    have hm2 : IntKind.i64.wrap ((X : Int) % 128) = (X : Int) % 128 := by rw [IntKind.wrap_i64]; omega
    have hm3 : IntKind.i64.wrap ((kk : Int) * 7) = (kk : Int) * 7 := by rw [IntKind.wrap_i64]; omega
    have hm4 : (X : Int).tmod 128 = (X : Int) % 128 := by rw [Int.tmod_eq_emod_of_nonneg (by omega)]
    have hnlt : n < 128 ^ kk := by rw [← hn, ← hkk]; exact acc_lt pre
    obtain ⟨hm5, hm5', hm6⟩ := shl_or n kk X hlen hnlt
    obtain ⟨M, hM⟩ : ∃ M : Int, ((128 ^ kk * (X % 128) : Nat) : Int) = M := ⟨_, rfl⟩
    obtain ⟨N, hN⟩ : ∃ N : Int, ((n + 128 ^ kk * (X % 128) : Nat) : Int) = N := ⟨_, rfl⟩
    rw [hM] at hm5 hm5' hm6
    rw [hN] at hm6
    have Hn := hide (And.intro hn (And.intro hkk hN))
    clear hn hkk hN hM hnlt
    gi_wp2
    refine wpIn_still 8 (fun a' w' => a' = { tmps := #[.slice A l c, .int .i64 (i : Int), undef, .pointer (some ⟨B0, 0, none⟩), .pointer (some ⟨B1, 0, none⟩), .pointer (some ⟨B2, 0, none⟩), .pointer (some ⟨B3, 0, none⟩), .pointer (some ⟨B4, 0, none⟩), .pointer (some ⟨B5, 0, none⟩), .int .u8 X, .int .i64 (i : Int), .bool (decide ((i : Int) < 0)), .slice A l c, .int .i64 (i : Int), .func (.func 125) #[] #[.pointer (some ⟨B6, 0, none⟩), .pointer (some ⟨B7, 0, none⟩)], .int .u8 X, .int .i64 n, .int .u8 X, .int .u8 ((X : Int) % 128), .int .i64 ((X : Int) % 128), .int .i64 kk, .int .i64 ((kk : Int) * 7), .int .i64 M, .int .i64 N, undef, undef, undef, undef, undef, undef, undef, undef, undef, undef, undef, undef, undef, undef, undef, undef], defers := [] } ∧ w' = (V.setCell ⟨B4, 0, none⟩ (.int .i64 N)).drew) (by kernel_rfl) (by kernel_rfl) (by rfl) ?h ?q
    case h =>
      simp only [List.take_succ_cons, List.take_zero, List.drop_succ_cons, List.drop_zero]
      repeat still_step
      refine wpStill_nil ?_
      change wpList _ _ _ _ _ V.drew
      go_wp2_with fail
    case q =>
      rintro a' w' ⟨rfl, rfl⟩
      have G := Hbx.out.st4 HE.out N
      clear hm2 hm3 hm4 hm5 hm5' hm6
      have HG := hide G
      clear G
      by_cases hx : 128 ≤ X
      · have q1 : (128 : Int) ≤ (X : Int) := by omega
        gi_wp2
        obtain ⟨g1, g2, g3⟩ := Hn.out
        refine ⟨(((KeepsOthers.setCell _ _ _).trans (KeepsOthers.setCell _ _ _)).trans (KeepsOthers.drew _)).from _, (((Below.refl B0 V).setCell (p := ⟨B4, 0, none⟩) b4 _).setCell (p := ⟨B5, 0, none⟩) b5 _).drew, ?_, ?_, ((HB.out.setCell (p := ⟨B4, 0, none⟩) b4 _).setCell (p := ⟨B5, 0, none⟩) b5 _).drew⟩
        · have := HG.out.st5 HE.out ((kk : Int) + 1)
          rw [acc_snoc, g1, g2, HX.out, List.length_append, g2, g3]
          exact this
        · intro d hd
          rcases List.mem_append.1 hd with hd | hd
          · exact Hpre.out d hd
          · rw [List.mem_singleton] at hd; rw [hd, HX.out]; exact hx
      · have q1 : ¬ (128 : Int) ≤ (X : Int) := by omega
        have hP : atV [x] kk n = if X = 0 ∧ 0 < kk then (0, 0, 4) else (n + 128 ^ kk * (X % 128), kk + 1, 0) := by
          split
          · rename_i h0; rw [atV_zero (by rw [HX.out]; exact h0.1) h0.2]
          · rename_i h0; rw [atV_ok (by rw [HX.out]; omega) (by rw [HX.out]; omega), HX.out, Nat.mod_eq_of_lt (by omega)]
        have HP := hide hP
        clear hP
        by_cases h0 : X = 0 ∧ 0 < kk
        · have q2 : (1 : Int) < (kk : Int) + 1 := by omega
          have q3 : (X : Int) = 0 := by omega
          have Hh := hide h0
          clear h0 hx
          gi_wp2
          obtain ⟨g1, g2, g3⟩ := Hn.out
          have hP := HP.out
          rw [if_pos Hh.out] at hP
          refine ⟨((((((KeepsOthers.setCell _ _ _).trans (KeepsOthers.setCell _ _ _)).trans (KeepsOthers.setCell _ _ _)).trans (KeepsOthers.setCell _ _ _)).trans (KeepsOthers.setCell _ _ _)).trans (KeepsOthers.drew _)).from _, ?_, ?_⟩
          · refine ⟨rfl, pre, x, rfl, Hpre.out, by rw [HX.out]; omega, N, (kk : Int) + 1, ?_⟩
            unfold atP
            rw [g1, g2, hP]
            exact (((HG.out.st5 HE.out ((kk : Int) + 1)).st1 HE.out 0).st2 HE.out 0).st3 HE.out 4
          · exact (((((HB.out.setCell (p := ⟨B4, 0, none⟩) b4 _).setCell (p := ⟨B5, 0, none⟩) b5 _).setCell (p := ⟨B1, 0, none⟩) b1 _).setCell (p := ⟨B2, 0, none⟩) b2 _).setCell (p := ⟨B3, 0, none⟩) b3 _).drew
        · have Hh := hide h0
          have HxX := hide hx
          clear h0 hx
          by_cases q3 : (X : Int) = 0
          · have q4 : ¬ (1 : Int) < (kk : Int) + 1 := by have := Hh.out; omega
            gi_wp2
            have G2 := HG.out.st5 HE.out ((kk : Int) + 1)
            have G3 : AtBox (((V.setCell ⟨B4, 0, none⟩ (.int .i64 N)).setCell ⟨B5, 0, none⟩ (.int .i64 ((kk : Int) + 1))).drew) B0 B1 B2 B3 B4 B5 i 0 0 0 N ((kk : Int) + 1) := G2
            have Bl : Below B0 V (((V.setCell ⟨B4, 0, none⟩ (.int .i64 N)).setCell ⟨B5, 0, none⟩ (.int .i64 ((kk : Int) + 1))).drew) := (((Below.refl B0 V).setCell (p := ⟨B4, 0, none⟩) b4 _).setCell (p := ⟨B5, 0, none⟩) b5 _).drew
            have Ko : KeepsOthers V (((V.setCell ⟨B4, 0, none⟩ (.int .i64 N)).setCell ⟨B5, 0, none⟩ (.int .i64 ((kk : Int) + 1))).drew) := ((KeepsOthers.setCell _ _ _).trans (KeepsOthers.setCell _ _ _)).trans (KeepsOthers.drew _)
            obtain ⟨V2, hV2⟩ : ∃ V2, ((V.setCell ⟨B4, 0, none⟩ (.int .i64 N)).setCell ⟨B5, 0, none⟩ (.int .i64 ((kk : Int) + 1))).drew = V2 := ⟨_, rfl⟩
            rw [hV2] at G3 Bl Ko ⊢
            clear G2 hV2 k0 k1 k2 k3 k4 k5 f1 f2 f3 f4 f5
            obtain ⟨d0, d1, d2, d3, d4, d5⟩ := id G3
            have k0 := d0.cell
            have k1 := d1.cell
            have k2 := d2.cell
            have k3 := d3.cell
            have k4 := d4.cell
            have k5 := d5.cell
            have f1 := d1.frozen
            have f2 := d2.frozen
            have f3 := d3.frozen
            have HG3 := hide G3
            have HBl := hide Bl
            have HKo := hide Ko
            have hm7 : IntKind.i64.wrap ((i : Int) + ((kk : Int) + 1)) = (i : Int) + ((kk : Int) + 1) := by rw [IntKind.wrap_i64]; omega
            have A1 := hide (G3.st1 HE.out N)
            have A2 := hide (A1.out.st2 HE.out ((i : Int) + ((kk : Int) + 1)))
            have A3 := hide (A2.out.st3 HE.out 0)
            clear d0 d1 d2 d3 d4 d5 G3 Bl Ko hfit
            refine wpIn_held (fun w' => w'.cell? ⟨B0, 0, none⟩ = some (.int .i64 (i : Int)) ∧ w'.cell? ⟨B4, 0, none⟩ = some (.int .i64 N) ∧ w'.cell? ⟨B5, 0, none⟩ = some (.int .i64 ((kk : Int) + 1))) (fun _ w' => w' = (((V2.setCell ⟨B1, 0, none⟩ (.int .i64 N)).setCell ⟨B2, 0, none⟩ (.int .i64 ((i : Int) + ((kk : Int) + 1)))).setCell ⟨B3, 0, none⟩ (.int .i64 0)).drew) (by kernel_rfl) (by kernel_rfl) ?_ (fun hHeld => ?_) ?q
            · exact ⟨k0, k4, k5⟩
            refine wpAnyH_take (i := 0) (oi := { dst := some 34, op := _, type := _, pos := _, after := _, guard := _ }) (v := ?v1x1) rfl (by kernel_rfl) (by kernel_rfl) (by kernel_rfl) (fun _ _ _ h => h) (Or.inl ⟨by rfl, ?hy1x1⟩) hHeld ?rest1x1
            case hy1x1 => (intro w hSw; go_simp <;> with_reducible rfl)
            try simp only [Act.put, List.setIfInBounds_toArray, List.set_cons_zero, List.set_cons_succ]
            refine wpAnyH_take (i := 1) (oi := { dst := some 35, op := _, type := _, pos := _, after := _, guard := _ }) (v := ?v1x2) rfl (by kernel_rfl) (by kernel_rfl) (by kernel_rfl) (fun _ _ _ h => h) (Or.inl ⟨by rfl, ?hy1x2⟩) hHeld ?rest1x2
            case hy1x2 => (intro w hSw; go_simp <;> with_reducible rfl)
            try simp only [Act.put, List.setIfInBounds_toArray, List.set_cons_zero, List.set_cons_succ]
            refine wpAnyH_take (i := 2) (oi := { dst := some 36, op := _, type := _, pos := _, after := _, guard := _ }) (v := ?v1x3) rfl (by kernel_rfl) (by kernel_rfl) (by kernel_rfl) (fun _ _ _ h => h) (Or.inl ⟨by rfl, ?hy1x3⟩) hHeld ?rest1x3
            case hy1x3 => (intro w hSw; go_simp <;> with_reducible rfl)
            try simp only [Act.put, List.setIfInBounds_toArray, List.set_cons_zero, List.set_cons_succ]
            refine wpAnyH_take (i := 3) (oi := { dst := some 37, op := _, type := _, pos := _, after := _, guard := _ }) (v := ?v1x4) rfl (by kernel_rfl) (by kernel_rfl) (by kernel_rfl) (fun _ _ _ h => h) (Or.inl ⟨by rfl, ?hy1x4⟩) hHeld ?rest1x4
            case hy1x4 => (intro w hSw; go_simp <;> with_reducible rfl)
            try simp only [Act.put, List.setIfInBounds_toArray, List.set_cons_zero, List.set_cons_succ]
            refine wpAnyH_ready (rs := [4]) (by kernel_rfl) (by simp) (AllReadyH.cons (o := { dst := none, op := _, type := _, pos := _, after := _, guard := _ }) rfl (fun K hK => ?_) AllReadyH.nil)
            go_simp
            go_wp2_with fail
            refine hK.out _ _ ?_ (fun hHeld => ?_)
            · exact ⟨A1.out.1.cell, A1.out.2.2.2.2.1.cell, A1.out.2.2.2.2.2.cell⟩
            clear hK K
            try simp only [Act.put, List.setIfInBounds_toArray, List.set_cons_zero, List.set_cons_succ]
            refine wpAnyH_ready (rs := [5]) (by kernel_rfl) (by simp) (AllReadyH.cons (o := { dst := none, op := _, type := _, pos := _, after := _, guard := _ }) rfl (fun K hK => ?_) AllReadyH.nil)
            go_simp
            go_wp2_with fail
            refine hK.out _ _ ?_ (fun hHeld => ?_)
            · exact ⟨A2.out.1.cell, A2.out.2.2.2.2.1.cell, A2.out.2.2.2.2.2.cell⟩
            clear hK K
            try simp only [Act.put, List.setIfInBounds_toArray, List.set_cons_zero, List.set_cons_succ]
            refine wpAnyH_ready (rs := [6]) (by kernel_rfl) (by simp) (AllReadyH.cons (o := { dst := none, op := _, type := _, pos := _, after := _, guard := _ }) rfl (fun K hK => ?_) AllReadyH.nil)
            go_simp
            go_wp2_with fail
            refine hK.out _ _ ?_ (fun hHeld => ?_)
            · exact ⟨A3.out.1.cell, A3.out.2.2.2.2.1.cell, A3.out.2.2.2.2.2.cell⟩
            clear hK K
            try simp only [Act.put, List.setIfInBounds_toArray, List.set_cons_zero, List.set_cons_succ]
            refine wpAnyH_done (by kernel_rfl) ?_ _
            · exact ⟨rfl, rfl⟩
            case q =>
              rintro a' w' rfl
              gi_wp2
              obtain ⟨g1, g2, g3⟩ := Hn.out
              have hP := HP.out
              rw [if_neg Hh.out] at hP
              refine ⟨((((HKo.out.trans (KeepsOthers.setCell _ _ _)).trans (KeepsOthers.setCell _ _ _)).trans (KeepsOthers.setCell _ _ _)).trans (KeepsOthers.drew _)).from _, ?_, ?_⟩
              · refine ⟨rfl, pre, x, rfl, Hpre.out, by rw [HX.out]; have := HxX.out; omega, N, (kk : Int) + 1, ?_⟩
                unfold atP
                rw [g1, g2, hP, ← g3]
                have := ((HG3.out.st1 HE.out N).st2 HE.out ((i : Int) + ((kk : Int) + 1))).st3 HE.out 0
                rw [← g3] at this
                exact this
              · exact ((((HB.out.trans HBl.out).setCell (p := ⟨B1, 0, none⟩) b1 _).setCell (p := ⟨B2, 0, none⟩) b2 _).setCell (p := ⟨B3, 0, none⟩) b3 _).drew
          · have q3' : ((X : Int) == 0) = false := by simpa using q3
            clear q3
            gi_wp2
            have G2 := HG.out.st5 HE.out ((kk : Int) + 1)
            have G3 : AtBox (((V.setCell ⟨B4, 0, none⟩ (.int .i64 N)).setCell ⟨B5, 0, none⟩ (.int .i64 ((kk : Int) + 1))).drew) B0 B1 B2 B3 B4 B5 i 0 0 0 N ((kk : Int) + 1) := G2
            have Bl : Below B0 V (((V.setCell ⟨B4, 0, none⟩ (.int .i64 N)).setCell ⟨B5, 0, none⟩ (.int .i64 ((kk : Int) + 1))).drew) := (((Below.refl B0 V).setCell (p := ⟨B4, 0, none⟩) b4 _).setCell (p := ⟨B5, 0, none⟩) b5 _).drew
            have Ko : KeepsOthers V (((V.setCell ⟨B4, 0, none⟩ (.int .i64 N)).setCell ⟨B5, 0, none⟩ (.int .i64 ((kk : Int) + 1))).drew) := ((KeepsOthers.setCell _ _ _).trans (KeepsOthers.setCell _ _ _)).trans (KeepsOthers.drew _)
            obtain ⟨V2, hV2⟩ : ∃ V2, ((V.setCell ⟨B4, 0, none⟩ (.int .i64 N)).setCell ⟨B5, 0, none⟩ (.int .i64 ((kk : Int) + 1))).drew = V2 := ⟨_, rfl⟩
            rw [hV2] at G3 Bl Ko ⊢
            clear G2 hV2 k0 k1 k2 k3 k4 k5 f1 f2 f3 f4 f5
            obtain ⟨d0, d1, d2, d3, d4, d5⟩ := id G3
            have k0 := d0.cell
            have k1 := d1.cell
            have k2 := d2.cell
            have k3 := d3.cell
            have k4 := d4.cell
            have k5 := d5.cell
            have f1 := d1.frozen
            have f2 := d2.frozen
            have f3 := d3.frozen
            have HG3 := hide G3
            have HBl := hide Bl
            have HKo := hide Ko
            have hm7 : IntKind.i64.wrap ((i : Int) + ((kk : Int) + 1)) = (i : Int) + ((kk : Int) + 1) := by rw [IntKind.wrap_i64]; omega
            have A1 := hide (G3.st1 HE.out N)
            have A2 := hide (A1.out.st2 HE.out ((i : Int) + ((kk : Int) + 1)))
            have A3 := hide (A2.out.st3 HE.out 0)
            clear d0 d1 d2 d3 d4 d5 G3 Bl Ko hfit
            refine wpIn_held (fun w' => w'.cell? ⟨B0, 0, none⟩ = some (.int .i64 (i : Int)) ∧ w'.cell? ⟨B4, 0, none⟩ = some (.int .i64 N) ∧ w'.cell? ⟨B5, 0, none⟩ = some (.int .i64 ((kk : Int) + 1))) (fun _ w' => w' = (((V2.setCell ⟨B1, 0, none⟩ (.int .i64 N)).setCell ⟨B2, 0, none⟩ (.int .i64 ((i : Int) + ((kk : Int) + 1)))).setCell ⟨B3, 0, none⟩ (.int .i64 0)).drew) (by kernel_rfl) (by kernel_rfl) ?_ (fun hHeld => ?_) ?q
            · exact ⟨k0, k4, k5⟩
            refine wpAnyH_take (i := 0) (oi := { dst := some 34, op := _, type := _, pos := _, after := _, guard := _ }) (v := ?v2x1) rfl (by kernel_rfl) (by kernel_rfl) (by kernel_rfl) (fun _ _ _ h => h) (Or.inl ⟨by rfl, ?hy2x1⟩) hHeld ?rest2x1
            case hy2x1 => (intro w hSw; go_simp <;> with_reducible rfl)
            try simp only [Act.put, List.setIfInBounds_toArray, List.set_cons_zero, List.set_cons_succ]
            refine wpAnyH_take (i := 1) (oi := { dst := some 35, op := _, type := _, pos := _, after := _, guard := _ }) (v := ?v2x2) rfl (by kernel_rfl) (by kernel_rfl) (by kernel_rfl) (fun _ _ _ h => h) (Or.inl ⟨by rfl, ?hy2x2⟩) hHeld ?rest2x2
            case hy2x2 => (intro w hSw; go_simp <;> with_reducible rfl)
            try simp only [Act.put, List.setIfInBounds_toArray, List.set_cons_zero, List.set_cons_succ]
            refine wpAnyH_take (i := 2) (oi := { dst := some 36, op := _, type := _, pos := _, after := _, guard := _ }) (v := ?v2x3) rfl (by kernel_rfl) (by kernel_rfl) (by kernel_rfl) (fun _ _ _ h => h) (Or.inl ⟨by rfl, ?hy2x3⟩) hHeld ?rest2x3
            case hy2x3 => (intro w hSw; go_simp <;> with_reducible rfl)
            try simp only [Act.put, List.setIfInBounds_toArray, List.set_cons_zero, List.set_cons_succ]
            refine wpAnyH_take (i := 3) (oi := { dst := some 37, op := _, type := _, pos := _, after := _, guard := _ }) (v := ?v2x4) rfl (by kernel_rfl) (by kernel_rfl) (by kernel_rfl) (fun _ _ _ h => h) (Or.inl ⟨by rfl, ?hy2x4⟩) hHeld ?rest2x4
            case hy2x4 => (intro w hSw; go_simp <;> with_reducible rfl)
            try simp only [Act.put, List.setIfInBounds_toArray, List.set_cons_zero, List.set_cons_succ]
            refine wpAnyH_ready (rs := [4]) (by kernel_rfl) (by simp) (AllReadyH.cons (o := { dst := none, op := _, type := _, pos := _, after := _, guard := _ }) rfl (fun K hK => ?_) AllReadyH.nil)
            go_simp
            go_wp2_with fail
            refine hK.out _ _ ?_ (fun hHeld => ?_)
            · exact ⟨A1.out.1.cell, A1.out.2.2.2.2.1.cell, A1.out.2.2.2.2.2.cell⟩
            clear hK K
            try simp only [Act.put, List.setIfInBounds_toArray, List.set_cons_zero, List.set_cons_succ]
            refine wpAnyH_ready (rs := [5]) (by kernel_rfl) (by simp) (AllReadyH.cons (o := { dst := none, op := _, type := _, pos := _, after := _, guard := _ }) rfl (fun K hK => ?_) AllReadyH.nil)
            go_simp
            go_wp2_with fail
            refine hK.out _ _ ?_ (fun hHeld => ?_)
            · exact ⟨A2.out.1.cell, A2.out.2.2.2.2.1.cell, A2.out.2.2.2.2.2.cell⟩
            clear hK K
            try simp only [Act.put, List.setIfInBounds_toArray, List.set_cons_zero, List.set_cons_succ]
            refine wpAnyH_ready (rs := [6]) (by kernel_rfl) (by simp) (AllReadyH.cons (o := { dst := none, op := _, type := _, pos := _, after := _, guard := _ }) rfl (fun K hK => ?_) AllReadyH.nil)
            go_simp
            go_wp2_with fail
            refine hK.out _ _ ?_ (fun hHeld => ?_)
            · exact ⟨A3.out.1.cell, A3.out.2.2.2.2.1.cell, A3.out.2.2.2.2.2.cell⟩
            clear hK K
            try simp only [Act.put, List.setIfInBounds_toArray, List.set_cons_zero, List.set_cons_succ]
            refine wpAnyH_done (by kernel_rfl) ?_ _
            · exact ⟨rfl, rfl⟩
            case q =>
              rintro a' w' rfl
              gi_wp2
              obtain ⟨g1, g2, g3⟩ := Hn.out
              have hP := HP.out
              rw [if_neg Hh.out] at hP
              refine ⟨((((HKo.out.trans (KeepsOthers.setCell _ _ _)).trans (KeepsOthers.setCell _ _ _)).trans (KeepsOthers.setCell _ _ _)).trans (KeepsOthers.drew _)).from _, ?_, ?_⟩
              · refine ⟨rfl, pre, x, rfl, Hpre.out, by rw [HX.out]; have := HxX.out; omega, N, (kk : Int) + 1, ?_⟩
                unfold atP
                rw [g1, g2, hP, ← g3]
                have := ((HG3.out.st1 HE.out N).st2 HE.out ((i : Int) + ((kk : Int) + 1))).st3 HE.out 0
                rw [← g3] at this
                exact this
              · exact ((((HB.out.trans HBl.out).setCell (p := ⟨B1, 0, none⟩) b1 _).setCell (p := ⟨B2, 0, none⟩) b2 _).setCell (p := ⟨B3, 0, none⟩) b3 _).drew
  case done =>
    rintro D ys V hD rfl ⟨hbx, hall, hB⟩ hK
    have HE := hide (show B1 = B0 + 1 ∧ B2 = B0 + 2 ∧ B3 = B0 + 3 ∧ B4 = B0 + 4 ∧ B5 = B0 + 5 by omega)
    have hb1 : B0 ≤ B1 := by omega
    have hb2 : B0 ≤ B2 := by omega
    have hb3 : B0 ≤ B3 := by omega
    have hD' : B0 ≤ W.heap.size := by omega
    have Hw := hide e0
    have HR := hide (atR_all xs i hall)
    have HB := hide hB
    have HK := hide hK
    have Hbx := hide hbx
    obtain ⟨R, hR⟩ : ∃ R, ((xs.drop i).take 4).length = R := ⟨_, rfl⟩
    rw [hR] at hbx HR Hbx
    have HRl := hide hR
    obtain ⟨d0, d1, d2, d3, d4, d5⟩ := hbx
    have k1 := d1.cell
    have k2 := d2.cell
    have k3 := d3.cell
    have k5 := d5.cell
    have f1 := d1.frozen
    have f2 := d2.frozen
    have f3 := d3.frozen
    have n12 : B1 ≠ B2 := by omega
    have n13 : B1 ≠ B3 := by omega
    have n23 : B2 ≠ B3 := by omega
    have n21 : B2 ≠ B1 := by omega
    have n31 : B3 ≠ B1 := by omega
    have n32 : B3 ≠ B2 := by omega
    clear hall hB hR hK d0 d1 d2 d3 d4 d5 e0 e1 e2 e3 e4 e5 e6 e7 hz c0 c1 c2 c3 c4 c5 c6 c7 hb
    by_cases h4 : (R : Int) < 4
    · gi_wp2
      have G := ((Hbx.out.st1 HE.out 0).st2 HE.out 0).st3 HE.out 7
      have hK' := (((KeepsOthers.setCell V ⟨B1, 0, none⟩ (.int .i64 0)).trans (KeepsOthers.setCell _ ⟨B2, 0, none⟩ (.int .i64 0))).trans (KeepsOthers.setCell _ ⟨B3, 0, none⟩ (.int .i64 7))).same D _ HK.out rfl
      refine ⟨by simp, .inl ⟨_, _, rfl, run_takeDeferred hK', ?_⟩⟩
      have G2 := G.other (grownBy_putObj' _ D (.deferred none)) (fun r e => by cases e; exact ⟨_, hK', rfl⟩)
      refine ⟨_, results_cells3 rfl rfl rfl rfl agg_int agg_err G2.2.1.cell G2.2.2.1.cell G2.2.2.2.1.cell, ?_, ?_⟩
      · rw [HR.out, if_pos (by omega)]; rfl
      · rw [← Hw.out]
        exact (((HB.out.setCell (p := ⟨B1, 0, none⟩) hb1 _).setCell (p := ⟨B2, 0, none⟩) hb2 _).setCell (p := ⟨B3, 0, none⟩) hb3 _).trans (belowK_b (w := W) hD' _ D _ _ hD hK' rfl rfl)
    · gi_wp2
      have G := ((Hbx.out.st1 HE.out 0).st2 HE.out 0).st3 HE.out 4
      have hK' := (((KeepsOthers.setCell V ⟨B1, 0, none⟩ (.int .i64 0)).trans (KeepsOthers.setCell _ ⟨B2, 0, none⟩ (.int .i64 0))).trans (KeepsOthers.setCell _ ⟨B3, 0, none⟩ (.int .i64 4))).same D _ HK.out rfl
      refine ⟨by simp, .inl ⟨_, _, rfl, run_takeDeferred hK', ?_⟩⟩
      have G2 := G.other (grownBy_putObj' _ D (.deferred none)) (fun r e => by cases e; exact ⟨_, hK', rfl⟩)
      refine ⟨_, results_cells3 rfl rfl rfl rfl agg_int agg_err G2.2.1.cell G2.2.2.1.cell G2.2.2.2.1.cell, ?_, ?_⟩
      · rw [HR.out, if_neg (by omega)]; rfl
      · rw [← Hw.out]
        exact (((HB.out.setCell (p := ⟨B1, 0, none⟩) hb1 _).setCell (p := ⟨B2, 0, none⟩) hb2 _).setCell (p := ⟨B3, 0, none⟩) hb3 _).trans (belowK_b (w := W) hD' _ D _ _ hD hK' rfl rfl)
  case stop =>
    rintro D cd pre V hD hpr ⟨⟨rfl, ini, x, rfl, hini, hx, n, kk, hbx⟩, hB⟩ hK
    have HR := hide (atR_stop xs i ini x hpr hini hx)
    have HB := hide hB
    have Hbx := hide hbx
    have Hw := hide e0
    have hD' : B0 ≤ W.heap.size := by omega
    clear hini hx hbx hB e0 e1 e2 e3 e4 e5 e6 e7 hz c0 c1 c2 c3 c4 c5 c6 c7 hb
    gi_wp2
    refine ⟨by simp, .inl ⟨_, _, rfl, run_takeDeferred hK, ?_⟩⟩
    have G2 := Hbx.out.other (grownBy_putObj' _ D (.deferred none)) (fun r e => by cases e; exact ⟨_, hK, rfl⟩)
    refine ⟨_, results_cells3 rfl rfl rfl rfl agg_int agg_err G2.2.1.cell G2.2.2.1.cell G2.2.2.2.1.cell, ?_, ?_⟩
    · rw [HR.out]
    · rw [← Hw.out]
      exact HB.out.trans (belowK_b (w := W) hD' V D _ _ hD hK rfl rfl)

end Go.Proofs.Ytkgidimaiedocaa
