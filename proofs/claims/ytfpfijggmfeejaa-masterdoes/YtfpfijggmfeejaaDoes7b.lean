/-
  What is proved here: what Ask, Step, Came leave as it was; what is sent may be; the document's master as New makes it. No condition of its own.
-/
import Derived.Test.YtfpfijggmfeejaaDoes7a
namespace Go.Proofs.Ytfpfijggmfeejaa
set_option linter.unusedVariables false
set_option linter.unusedSimpArgs false
open Go.RowKit Go.Maps

theorem askS_keeps (s : MSt) (u : Int) (r : Rq) : (askS s u r).next ≤ s.next + 1 ∧ (askS s u r).rest = s.rest := by
  unfold askS
  split
  · exact ⟨Nat.le_refl _, rfl⟩
  · exact ⟨Nat.le_succ _, rfl⟩
theorem sendS_keeps (s : MSt) (now : Int) : (sendS s now).2.next = s.next ∧ (sendS s now).2.rest = s.rest := by
  unfold sendS
  split <;> exact ⟨rfl, rfl⟩
theorem stepR_keeps (s : MSt) (now : Int) : (stepR s now).2.2.2.next = s.next ∧ (stepR s now).2.2.2.rest = s.rest := by
  cases hb : tickBad s now
  · rcases out_cases s with ho | ⟨x, t, ho⟩
    · rw [stepR_none hb ho]
      exact sendS_keeps _ now
    · by_cases hl : now - s.last < s.wait
      · rw [stepR_wait hb ho hl]
        exact ⟨rfl, rfl⟩
      · by_cases ht : t < s.again + 1
        · rw [stepR_again hb ho hl ht]
          exact ⟨rfl, rfl⟩
        · rw [stepR_late hb ho hl ht]
          exact sendS_keeps (lateS s now x) now
  · rw [stepR_bad hb]
    exact ⟨rfl, rfl⟩
theorem cameR_keeps (s : MSt) (now u : Int) (b : List UInt8) : (cameR s now u b).2.2.next = s.next ∧ (cameR s now u b).2.2.rest = s.rest := by
  unfold cameR
  split
  · exact ⟨rfl, rfl⟩
  · split
    · exact ⟨rfl, rfl⟩
    · split
      · split <;> exact ⟨rfl, rfl⟩
      · exact ⟨rfl, rfl⟩
theorem sendS_out (s : MSt) (now : Int) : ∀ x ∈ (sendS s now).1, (sendS s now).2.out = some (x, 1) := by
  intro x hx
  unfold sendS at hx ⊢
  cases hf : freeAt s.till now s.line with
  | none => rw [hf] at hx; cases hx
  | some q =>
    obtain ⟨a, y, b⟩ := q
    rw [hf] at hx
    simp at hx
    subst hx
    rfl
/-- What is sent is out behind it. -/
theorem stepR_out (s : MSt) (now : Int) : ∀ x ∈ (stepR s now).1, ∃ t, (stepR s now).2.2.2.out = some (x, t) := by
  intro x hx
  cases hb : tickBad s now
  · rcases out_cases s with ho | ⟨y, t, ho⟩
    · rw [stepR_none hb ho] at hx ⊢
      exact ⟨1, sendS_out _ now x hx⟩
    · by_cases hl : now - s.last < s.wait
      · rw [stepR_wait hb ho hl] at hx
        cases hx
      · by_cases ht : t < s.again + 1
        · rw [stepR_again hb ho hl ht] at hx ⊢
          simp at hx
          subst hx
          exact ⟨t + 1, rfl⟩
        · rw [stepR_late hb ho hl ht] at hx ⊢
          exact ⟨1, sendS_out (lateS s now y) now x hx⟩
  · rw [stepR_bad hb] at hx
    cases hx
theorem stepR_may {s : MSt} (h : MOk s) (now : Int) : ∀ x ∈ (stepR s now).1, x.r.may = true := by
  intro x hx
  obtain ⟨t, ho⟩ := stepR_out s now x hx
  exact ((mOk_step h now).omay x t ho).1.1
theorem cameR_us (s : MSt) (now u : Int) (b : List UInt8) : ∀ d ∈ (cameR s now u b).1, d.an.us.length ≤ 8 * b.length := by
  intro d hd
  unfold cameR at hd
  split at hd
  · cases hd
  · split at hd
    · cases hd
    · split at hd
      · split at hd
        · cases hd
        · rename_i a ha
          simp at hd
          subst hd
          obtain ⟨_, _, e⟩ := ansParse_some ha
          show a.us.length ≤ _
          rw [← e]
          exact ag_length _ _
      · cases hd
theorem dm_us {ds : List DM} {l : List Dn} (h : ds.map DM.dn = l) {n : Nat} (hl : ∀ d ∈ l, d.an.us.length ≤ n) : ∀ d ∈ ds, d.an.us.length ≤ n := fun d hd => hl d.dn (by rw [← h]; exact List.mem_map_of_mem hd)
theorem sm_us {rs : List SM} {l : List Wt} (h : rs.map SM.wt = l) (hl : ∀ x ∈ l, x.r.may = true) : ∀ y ∈ rs, y.r.vs.length ≤ 1000000 := fun y hy => by
  have h1 := hl y.wt (by rw [← h]; exact List.mem_map_of_mem hy)
  have h2 := may_vs (r := y.r) h1
  omega
theorem SRd1.few {w : World} {O : Option Addr} {n : Nat} {rs : List SM} (h : SRd1 w O n rs) : n ≤ 1000 := by
  rcases h with ⟨_, rfl⟩ | ⟨_, _, _, rfl, _⟩ <;> omega
theorem DRd.few {w : World} {O : Option Addr} {n : Nat} {ds : List DM} (h : DRd w O n ds) : n ≤ 1000 := by
  rcases h with ⟨_, rfl⟩ | ⟨_, _, _, rfl, _⟩ <;> omega

theorem zeroRs : Try.zeroCells34 = arr ([.int .i64 0, .int .i64 0, .int .i64 0, .int .i64 0, .int .i64 0, .int .i64 0, .slice none 0 0, .slice none 0 0] ++ (List.range 248).map fun (u : Nat) => Value.int .i64 0) := by kernel_rfl
/-- Both as New makes them. -/
theorem dd_start (x0 x1 x2 : Int) {v w : World} {m : ML} (a : MsW v.heap.size w m (mNew x0 x1 x2)) (n : m.n = 0) (b : Below v.heap.size v w) :
    DDw v 0 (mNew x0 x1 x2) (mNew x0 x1 x2) m { g := w.heap.size, A := none, k := 0, ws := [], o := none } (w.alloc (.cells (((Try.zeroCells34.setIfInBounds 0 (.int .i64 x0)).setIfInBounds 1 (.int .i64 x1)).setIfInBounds 2 (.int .i64 x2)) 34)) := by
  have hb : Below w.heap.size w (w.alloc (.cells (((Try.zeroCells34.setIfInBounds 0 (.int .i64 x0)).setIfInBounds 1 (.int .i64 x1)).setIfInBounds 2 (.int .i64 x2)) 34)) := (Below.refl _ _).alloc (Nat.le_refl _) _
  have e : ((Try.zeroCells34.setIfInBounds 0 (.int .i64 x0)).setIfInBounds 1 (.int .i64 x1)).setIfInBounds 2 (.int .i64 x2) = arr (rcs { g := w.heap.size, A := none, k := 0, ws := [], o := none } (mNew x0 x1 x2)) := by
    rw [zeroRs, arr_set, arr_set, arr_set]
    rfl
  have hS : ∀ i, RL.S { g := w.heap.size, A := none, k := 0, ws := [], o := none } i → i = w.heap.size := by
    rintro i (h | ⟨o, h⟩ | ⟨y, h⟩)
    · exact h
    · cases h
    · cases h
  refine ⟨a.keep hb, by omega, ⟨?_, World.ownsRow_nil _ _ _ _, by simp, rfl, trivial, fun _ _ _ h => by cases h⟩, fun i hi => by rw [hS i hi]; exact b.size, fun i hi hr => ?_, below_on b hb⟩
  · rw [e]
    exact Blk.new w 34 _
  · have := a.a.lt i hi
    have := hS i hr
    omega
/-- Both, as they stand ahead of a call. -/
structure DJ (g q : Nat) (w : World) (n : Nat) (wr : World) : Prop where
  all : ∃ (m : ML) (R : RL) (s : MSt), DDw w n s s m R wr ∧ m.g = g ∧ R.g = q ∧ s.next ≤ n ∧ s.rest ≤ 1000000000

end Go.Proofs.Ytfpfijggmfeejaa
