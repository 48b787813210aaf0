/-
  What is proved here: the document's own Same and AnswerSame: two requests (answers) that read alike are the same. Conditions: at most a million values.
-/
import Derived.Test.YtfpfijggmfeejaaPduDef
import Derived.Test.YtfpfijggmfeejaaStructs
namespace Go.Proofs.Ytfpfijggmfeejaa
set_option linter.unusedVariables false
set_option linter.unusedSimpArgs false
open Go.RowKit

theorem same_yes (f a c t an o : Int) (A B : Option Addr) (n m k d : Nat) (vs : List Int) (w : World) (h : Rd w A n (iv vs)) (h2 : Rd w B m (iv vs)) (hn : n ≤ 1000000) :
    Calls Try.prog 31 #[.agg #[.int .i64 f, .int .i64 a, .int .i64 c, .slice A n k, .int .i64 t, .int .i64 an, .int .i64 o], .agg #[.int .i64 f, .int .i64 a, .int .i64 c, .slice B m d, .int .i64 t, .int .i64 an, .int .i64 o]] w fun e w' => e = .returned (.bool true) ∧ Below w.heap.size w w' := by
  have hnm : n = m := h.1.symm.trans h2.1
  have HI := hide (fun W (b : Below w.heap.size w W) => ints_any A B n m k d vs vs W (h.keep b) (h2.keep b) hn (by omega))
  simp only [decide_true] at HI
  have HB := hide (two_boxes w [.int .i64 f, .int .i64 a, .int .i64 c, .slice A n k, .int .i64 t, .int .i64 an, .int .i64 o] [.int .i64 f, .int .i64 a, .int .i64 c, .slice B m d, .int .i64 t, .int .i64 an, .int .i64 o] 37 37 _ rfl)
  clear h h2 hnm
  have q1 : (f == f) = true := by simp
  have q2 : (a == a) = true := by simp
  have q3 : (c == c) = true := by simp
  have q4 : (t == t) = true := by simp
  have q5 : (an == an) = true := by simp
  have q6 : (o == o) = true := by simp
  go_enter Try.func31, Try.ntmps31
  go_wp2_with fail
  refine (HI.out _ HB.out.2.2.1).mono ?_
  rintro e w1 ⟨rfl, nq, rfl⟩
  go_wp2
  go_ret
  exact ⟨rfl, below_drewN HB.out.2.2.1 nq⟩

theorem ansSame_yes (code : Int) (A B : Option Addr) (n m k d : Nat) (vs : List Int) (w : World) (h : Rd w A n (iv vs)) (h2 : Rd w B m (iv vs)) (hn : n ≤ 1000000) :
    Calls Try.prog 32 #[.agg #[.slice A n k, .int .i64 code], .agg #[.slice B m d, .int .i64 code]] w fun e w' => e = .returned (.bool true) ∧ Below w.heap.size w w' := by
  have hnm : n = m := h.1.symm.trans h2.1
  have HI := hide (fun W (b : Below w.heap.size w W) => ints_any A B n m k d vs vs W (h.keep b) (h2.keep b) hn (by omega))
  simp only [decide_true] at HI
  have HB := hide (two_boxes w [.slice A n k, .int .i64 code] [.slice B m d, .int .i64 code] 61 61 _ rfl)
  clear h h2 hnm
  have q1 : (code == code) = true := by simp
  go_enter Try.func32, Try.ntmps32
  go_wp2_with fail
  refine (HI.out _ HB.out.2.2.1).mono ?_
  rintro e w1 ⟨rfl, nq, rfl⟩
  go_wp2
  go_ret
  exact ⟨rfl, below_drewN HB.out.2.2.1 nq⟩

/-- AnswerSame, whatever the two are. -/
theorem ansSame_any (code code2 : Int) (A B : Option Addr) (n m k d : Nat) (vs us : List Int) (w : World) (h : Rd w A n (iv vs)) (h2 : Rd w B m (iv us)) (hn : n ≤ 1000000) (hm : m ≤ 1000000) :
    Calls Try.prog 32 #[.agg #[.slice A n k, .int .i64 code], .agg #[.slice B m d, .int .i64 code2]] w fun e w' => e = .returned (.bool (decide (code = code2) && decide (vs = us))) ∧ Below w.heap.size w w' := by
  have HI := hide (fun W (b : Below w.heap.size w W) => ints_any A B n m k d vs us W (h.keep b) (h2.keep b) hn hm)
  have HB := hide (two_boxes w [.slice A n k, .int .i64 code] [.slice B m d, .int .i64 code2] 61 61 _ rfl)
  clear h h2
  by_cases hc : code = code2
  · subst hc
    rw [decide_eq_true rfl, Bool.true_and]
    generalize decide (vs = us) = r at *
    have q1 : (code == code) = true := by simp
    go_enter Try.func32, Try.ntmps32
    go_wp2_with fail
    refine (HI.out _ HB.out.2.2.1).mono ?_
    rintro e w1 ⟨rfl, nq, rfl⟩
    go_wp2
    go_ret
    exact ⟨rfl, below_drewN HB.out.2.2.1 nq⟩
  · rw [decide_eq_false hc, Bool.false_and]
    have q1 : (code == code2) = false := ne_beq hc
    clear hc
    go_enter Try.func32, Try.ntmps32
    go_wp2
    go_ret
    exact ⟨rfl, HB.out.2.2.1⟩

end Go.Proofs.Ytfpfijggmfeejaa
