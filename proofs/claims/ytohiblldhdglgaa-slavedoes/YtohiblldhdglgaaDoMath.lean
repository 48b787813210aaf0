/-
  What is proved here: what a request does to rows, as lists: nothing gets longer, what is written twice is as if once. No condition of its own.
-/
import Derived.Test.YtohiblldhdglgaaSlave7
namespace Go.Proofs.Ytohiblldhdglgaa
set_option linter.unusedVariables false
set_option linter.unusedSimpArgs false
open Go.RowKit

theorem well_do {R : Nat → List Int} {f a c t an o : Int} {vs : List Int} (hw : wellR R) (hM : mayB f a c vs t an o = true) : wellR (doR R f a c vs t an o) := by
  unfold doR
  by_cases h : goesB R f a c vs.length t = true
  · rw [if_pos h]
    refine well_next hw hM ?_
    unfold goesB at h
    rw [Bool.and_eq_true] at h
    exact h.2
  · rw [if_neg h]
    exact hw

theorem hasB_len {R R' : Nat → List Int} (h : ∀ kind, (rowL R' kind).length = (rowL R kind).length) (kind addr count : Int) : hasB R' kind addr count = hasB R kind addr count := by
  unfold hasB
  rw [h]
theorem goesB_len {R R' : Nat → List Int} (h : ∀ kind, (rowL R' kind).length = (rowL R kind).length) (f a c n t : Int) : goesB R' f a c n t = goesB R f a c n t := by
  unfold goesB
  rw [hasB_len h, hasB_len h]
theorem goesB_wr {R : Nat → List Int} {f a c n t : Int} (h : goesB R f a c n t = true) : hasB R (wrS f a n t).1 (wrS f a n t).2.1 (wrS f a n t).2.2 = true := by
  unfold goesB at h
  rw [Bool.and_eq_true] at h
  exact h.2
theorem do_len {R : Nat → List Int} {f a c t an o : Int} {vs : List Int} (hM : mayB f a c vs t an o = true) (kind : Int) : (rowL (doR R f a c vs t an o) kind).length = (rowL R kind).length := by
  unfold doR
  by_cases h : goesB R f a c vs.length t = true
  · rw [if_pos h]
    exact next_rowL hM (goesB_wr h) kind
  · rw [if_neg h]
theorem over_over (l : List Int) (at_ : Nat) (vs : List Int) (h : at_ + vs.length ≤ l.length) : over (over l at_ vs) at_ vs = over l at_ vs := by
  unfold over
  have h1 : (l.take at_ ++ vs ++ l.drop (at_ + vs.length)).take at_ = l.take at_ := by
    rw [List.append_assoc, List.take_append_of_le_length (by simp; omega), List.take_of_length_le (by simp; omega)]
  have h2 : (l.take at_ ++ vs ++ l.drop (at_ + vs.length)).drop (at_ + vs.length) = l.drop (at_ + vs.length) := by
    rw [List.drop_append_of_le_length (by simp; omega), List.drop_of_length_le (by simp; omega), List.nil_append]
  rw [h1, h2]
theorem upd_upd (R : Nat → List Int) (k : Nat) (l m : List Int) : upd (upd R k l) k m = upd R k m := by
  funext j
  unfold upd
  split <;> rfl
theorem next_next {R : Nat → List Int} {f a c t an o : Int} {vs : List Int} (hM : mayB f a c vs t an o = true) (hf : f ≠ 22) (hB : hasB R (wrS f a vs.length t).1 (wrS f a vs.length t).2.1 (wrS f a vs.length t).2.2 = true) :
    nextR (nextR R f a vs t an o) f a vs t an o = nextR R f a vs t an o := by
  have hb := hasB_yes hB
  have r0 : rowL R 1 = R 0 := rowL_kind R 0 (by omega)
  have r2 : rowL R 3 = R 2 := rowL_kind R 2 (by omega)
  rcases may_f hM with rfl | rfl | rfl | rfl | rfl | rfl | rfl | rfl | rfl | rfl
  all_goals simp [wrS, r0, r2] at hb
  all_goals first | exact absurd rfl hf | simp only [nextR, newV]
  all_goals simp
  all_goals rw [upd_upd, upd_same, over_over _ _ _ (by omega)]
theorem do_again {R : Nat → List Int} {f a c t an o : Int} {vs : List Int} (hM : mayB f a c vs t an o = true) (hf : f ≠ 22) : doV (doR R f a c vs t an o) f a c vs t an o = doV R f a c vs t an o := by
  have hg := goesB_len (do_len (R := R) hM) f a c vs.length t
  unfold doV
  rw [hg]
  by_cases h : goesB R f a c vs.length t = true
  · rw [if_pos h, if_pos h]
    unfold doR
    rw [if_pos h, next_next hM hf (goesB_wr h)]
  · rw [if_neg h, if_neg h]
theorem doC_again {R : Nat → List Int} {f a c t an o : Int} {vs : List Int} (hM : mayB f a c vs t an o = true) : doC (doR R f a c vs t an o) f a c vs.length t = doC R f a c vs.length t := by
  unfold doC
  rw [goesB_len (do_len (R := R) hM)]

theorem rdS_len {f a c t an o : Int} {vs : List Int} (hM : mayB f a c vs t an o = true) (R : Nat → List Int) : (valsL R f a c).length ≤ 1000000 := by
  have := rdS_count hM
  unfold valsL
  simp only [List.length_take]
  omega
theorem doV_len {R : Nat → List Int} {f a c t an o : Int} {vs : List Int} (hM : mayB f a c vs t an o = true) : (doV R f a c vs t an o).length ≤ 1000000 := by
  unfold doV
  split
  · exact rdS_len hM _
  · simp

end Go.Proofs.Ytohiblldhdglgaa
